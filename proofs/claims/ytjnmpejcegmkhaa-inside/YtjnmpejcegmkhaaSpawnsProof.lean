/- The statement Spawns: for every configuration (any eight numbers) and every script (any list of steps, raw) the call of prismlaw.Spawns returns true, and its arguments read as they did before. No condition. -/
import Derived.Test.YtjnmpejcegmkhaaRows
import Derived.Test.YtjnmpejcegmkhaaSpZ
import Derived.Test.YtjnmpejcegmkhaaNewsProof
import Derived.WalkKit
import Derived.ProofKit
import Derived.OpenShut
import Derived.Carry
import Derived.Lib.SmallJoins
import Derived.Deep.Slices
namespace Go.Proofs.Ytjnmpejcegmkhaa
open Go.ChangeShapes Go.WideShapes Go.ChangeAt Go.RowKit Go.Joins


end Go.Proofs.Ytjnmpejcegmkhaa
