/-
  No cell of these rows narrows 'for every input' (looked for: loops, veiled, ifaces, maps, wideKeys, modest, calm, conditions, laid).
  DERIVED. THE GIVEN ROWS OF THIS SEAT. 11 by the template 'for every input the law returns true; each argument reads behind the call as it read before'; 0 by the template 'total and deterministic' (their statements: YtjnmpejcegmkhaaTotals.lean).
  GIVEN WITH THE SEED: the statements are not yours to turn. If you find one false, say at which input.
  Laid BY PROGRAM, IN A SANDBOX (cutbox-rows.mjs): the forced cells as the released guide's own fill.sh prints them over the translation 1aab9008df9f7c6a… (all of the seat's roots in one cut). By AI agents, Wed Nov 11 2026. No macro, syntax, notation, axiom, sorry.
-/
import Derived.Test.YtjnmpejcegmkhaaChecked
import GoSem.Claim
import GoSem.ClaimJoined
import GoSem.ClaimMapViews
import Derived.JoinedTies
import Derived.KernelRfl
namespace Go.Proofs.Ytjnmpejcegmkhaa
/- THE CELL 'sum', in the pinned program and in every row, IS THE sha256 OF THE DUMP (.gsa) THAT YtjnmpejcegmkhaaProg.lean LOADS. Nothing in Lean hashes anything: it is a label: what it is worth is what the hold of that sum in a sandbox is worth. -/
noncomputable def Try.pinned : Pinned := { name := "ytjnmpejcegmkhaa", sum := "1aab9008df9f7c6aab07e9c3db1c63d83e67592703dfec70f3a8fe7c7fc12c61", checked := Try.checked }
namespace Rows
def none {H : Type} : Left H := { results := [], args := [] }

/-- 'prismlaw.News': WHATEVER THE INPUT: true; the input reads as it did. -/
def newsSpec : ChangeSpec := { name := "news", fn := fun _ => fun
  | [d] => { results := [.lit (.bool true)], args := [d] }
  | _ => none }
def newsRow : OpenClaim := { program := "ytjnmpejcegmkhaa", sum := "1aab9008df9f7c6aab07e9c3db1c63d83e67592703dfec70f3a8fe7c7fc12c61", func := "prism/prismlaw.News", spec := "news", recurses := true, apart := false }
def NewsSaid : Prop := newsRow.holds Try.pinned (OpenSpec.ofChange newsSpec)

/-- ITS FALSE NEIGHBOUR: 'it returns false'. Refute it at one input. -/
def newsWrong : ChangeSpec := { name := "news", fn := fun _ => fun
  | [d] => { results := [.lit (.bool false)], args := [d] }
  | _ => none }
def NewsWrongFalsely : Prop := newsRow.holds Try.pinned (OpenSpec.ofChange newsWrong)

/-- 'prismlaw.Spawns': WHATEVER THE INPUT: true; the input reads as it did. -/
def spawnsSpec : ChangeSpec := { name := "spawns", fn := fun _ => fun
  | [d1, d2] => { results := [.lit (.bool true)], args := [d1, d2] }
  | _ => none }
def spawnsRow : OpenClaim := { program := "ytjnmpejcegmkhaa", sum := "1aab9008df9f7c6aab07e9c3db1c63d83e67592703dfec70f3a8fe7c7fc12c61", func := "prism/prismlaw.Spawns", spec := "spawns", recurses := true, apart := false }
def SpawnsSaid : Prop := spawnsRow.holds Try.pinned (OpenSpec.ofChange spawnsSpec)

/-- ITS FALSE NEIGHBOUR: 'it returns false'. Refute it at one input. -/
def spawnsWrong : ChangeSpec := { name := "spawns", fn := fun _ => fun
  | [d1, d2] => { results := [.lit (.bool false)], args := [d1, d2] }
  | _ => none }
def SpawnsWrongFalsely : Prop := spawnsRow.holds Try.pinned (OpenSpec.ofChange spawnsWrong)

/-- 'prismlaw.Walks': WHATEVER THE INPUT: true; the input reads as it did. -/
def walksSpec : ChangeSpec := { name := "walks", fn := fun _ => fun
  | [d1, d2] => { results := [.lit (.bool true)], args := [d1, d2] }
  | _ => none }
def walksRow : OpenClaim := { program := "ytjnmpejcegmkhaa", sum := "1aab9008df9f7c6aab07e9c3db1c63d83e67592703dfec70f3a8fe7c7fc12c61", func := "prism/prismlaw.Walks", spec := "walks", recurses := true, apart := false }
def WalksSaid : Prop := walksRow.holds Try.pinned (OpenSpec.ofChange walksSpec)

/-- ITS FALSE NEIGHBOUR: 'it returns false'. Refute it at one input. -/
def walksWrong : ChangeSpec := { name := "walks", fn := fun _ => fun
  | [d1, d2] => { results := [.lit (.bool false)], args := [d1, d2] }
  | _ => none }
def WalksWrongFalsely : Prop := walksRow.holds Try.pinned (OpenSpec.ofChange walksWrong)

/-- 'prismlaw.Changes': WHATEVER THE INPUT: true; the input reads as it did. -/
def changesSpec : ChangeSpec := { name := "changes", fn := fun _ => fun
  | [d1, d2] => { results := [.lit (.bool true)], args := [d1, d2] }
  | _ => none }
def changesRow : OpenClaim := { program := "ytjnmpejcegmkhaa", sum := "1aab9008df9f7c6aab07e9c3db1c63d83e67592703dfec70f3a8fe7c7fc12c61", func := "prism/prismlaw.Changes", spec := "changes", recurses := true, apart := false }
def ChangesSaid : Prop := changesRow.holds Try.pinned (OpenSpec.ofChange changesSpec)

/-- ITS FALSE NEIGHBOUR: 'it returns false'. Refute it at one input. -/
def changesWrong : ChangeSpec := { name := "changes", fn := fun _ => fun
  | [d1, d2] => { results := [.lit (.bool false)], args := [d1, d2] }
  | _ => none }
def ChangesWrongFalsely : Prop := changesRow.holds Try.pinned (OpenSpec.ofChange changesWrong)

/-- 'prismlaw.Rests': WHATEVER THE INPUT: true; the input reads as it did. -/
def restsSpec : ChangeSpec := { name := "rests", fn := fun _ => fun
  | [d1, d2] => { results := [.lit (.bool true)], args := [d1, d2] }
  | _ => none }
def restsRow : OpenClaim := { program := "ytjnmpejcegmkhaa", sum := "1aab9008df9f7c6aab07e9c3db1c63d83e67592703dfec70f3a8fe7c7fc12c61", func := "prism/prismlaw.Rests", spec := "rests", recurses := true, apart := false }
def RestsSaid : Prop := restsRow.holds Try.pinned (OpenSpec.ofChange restsSpec)

/-- ITS FALSE NEIGHBOUR: 'it returns false'. Refute it at one input. -/
def restsWrong : ChangeSpec := { name := "rests", fn := fun _ => fun
  | [d1, d2] => { results := [.lit (.bool false)], args := [d1, d2] }
  | _ => none }
def RestsWrongFalsely : Prop := restsRow.holds Try.pinned (OpenSpec.ofChange restsWrong)

/-- 'prismlaw.All': WHATEVER THE INPUT: true; the input reads as it did. -/
def allSpec : ChangeSpec := { name := "all", fn := fun _ => fun
  | [d1, d2] => { results := [.lit (.bool true)], args := [d1, d2] }
  | _ => none }
def allRow : OpenClaim := { program := "ytjnmpejcegmkhaa", sum := "1aab9008df9f7c6aab07e9c3db1c63d83e67592703dfec70f3a8fe7c7fc12c61", func := "prism/prismlaw.All", spec := "all", recurses := true, apart := false }
def AllSaid : Prop := allRow.holds Try.pinned (OpenSpec.ofChange allSpec)

/-- ITS FALSE NEIGHBOUR: 'it returns false'. Refute it at one input. -/
def allWrong : ChangeSpec := { name := "all", fn := fun _ => fun
  | [d1, d2] => { results := [.lit (.bool false)], args := [d1, d2] }
  | _ => none }
def AllWrongFalsely : Prop := allRow.holds Try.pinned (OpenSpec.ofChange allWrong)

/-- 'prismkeep.Meets': WHATEVER THE INPUT: true; the input reads as it did. -/
def meetsSpec : ChangeSpec := { name := "meets", fn := fun _ => fun
  | [d1, d2, d3, d4, d5] => { results := [.lit (.bool true)], args := [d1, d2, d3, d4, d5] }
  | _ => none }
def meetsRow : OpenClaim := { program := "ytjnmpejcegmkhaa", sum := "1aab9008df9f7c6aab07e9c3db1c63d83e67592703dfec70f3a8fe7c7fc12c61", func := "prism/prismkeep.Meets", spec := "meets", apart := false }
def MeetsSaid : Prop := meetsRow.holds Try.pinned (OpenSpec.ofChange meetsSpec)

/-- ITS FALSE NEIGHBOUR: 'it returns false'. Refute it at one input. -/
def meetsWrong : ChangeSpec := { name := "meets", fn := fun _ => fun
  | [d1, d2, d3, d4, d5] => { results := [.lit (.bool false)], args := [d1, d2, d3, d4, d5] }
  | _ => none }
def MeetsWrongFalsely : Prop := meetsRow.holds Try.pinned (OpenSpec.ofChange meetsWrong)

/-- 'prismkeep.Alone': WHATEVER THE INPUT: true; the input reads as it did. -/
def aloneSpec : ChangeSpec := { name := "alone", fn := fun _ => fun
  | [d1, d2] => { results := [.lit (.bool true)], args := [d1, d2] }
  | _ => none }
def aloneRow : OpenClaim := { program := "ytjnmpejcegmkhaa", sum := "1aab9008df9f7c6aab07e9c3db1c63d83e67592703dfec70f3a8fe7c7fc12c61", func := "prism/prismkeep.Alone", spec := "alone", apart := false }
def AloneSaid : Prop := aloneRow.holds Try.pinned (OpenSpec.ofChange aloneSpec)

/-- ITS FALSE NEIGHBOUR: 'it returns false'. Refute it at one input. -/
def aloneWrong : ChangeSpec := { name := "alone", fn := fun _ => fun
  | [d1, d2] => { results := [.lit (.bool false)], args := [d1, d2] }
  | _ => none }
def AloneWrongFalsely : Prop := aloneRow.holds Try.pinned (OpenSpec.ofChange aloneWrong)

/-- 'prismkeep.Inside': WHATEVER THE INPUT: true; the input reads as it did. -/
def insideSpec : ChangeSpec := { name := "inside", fn := fun _ => fun
  | [d1, d2] => { results := [.lit (.bool true)], args := [d1, d2] }
  | _ => none }
def insideRow : OpenClaim := { program := "ytjnmpejcegmkhaa", sum := "1aab9008df9f7c6aab07e9c3db1c63d83e67592703dfec70f3a8fe7c7fc12c61", func := "prism/prismkeep.Inside", spec := "inside", apart := false }
def InsideSaid : Prop := insideRow.holds Try.pinned (OpenSpec.ofChange insideSpec)

/-- ITS FALSE NEIGHBOUR: 'it returns false'. Refute it at one input. -/
def insideWrong : ChangeSpec := { name := "inside", fn := fun _ => fun
  | [d1, d2] => { results := [.lit (.bool false)], args := [d1, d2] }
  | _ => none }
def InsideWrongFalsely : Prop := insideRow.holds Try.pinned (OpenSpec.ofChange insideWrong)

/-- 'prismkeep.Even': WHATEVER THE INPUT: true; the input reads as it did. -/
def evenSpec : ChangeSpec := { name := "even", fn := fun _ => fun
  | [d1, d2, d3] => { results := [.lit (.bool true)], args := [d1, d2, d3] }
  | _ => none }
def evenRow : OpenClaim := { program := "ytjnmpejcegmkhaa", sum := "1aab9008df9f7c6aab07e9c3db1c63d83e67592703dfec70f3a8fe7c7fc12c61", func := "prism/prismkeep.Even", spec := "even", apart := false }
def EvenSaid : Prop := evenRow.holds Try.pinned (OpenSpec.ofChange evenSpec)

/-- ITS FALSE NEIGHBOUR: 'it returns false'. Refute it at one input. -/
def evenWrong : ChangeSpec := { name := "even", fn := fun _ => fun
  | [d1, d2, d3] => { results := [.lit (.bool false)], args := [d1, d2, d3] }
  | _ => none }
def EvenWrongFalsely : Prop := evenRow.holds Try.pinned (OpenSpec.ofChange evenWrong)

/-- 'prismkeep.Counts': WHATEVER THE INPUT: true; the input reads as it did. -/
def countsSpec : ChangeSpec := { name := "counts", fn := fun _ => fun
  | [d1, d2, d3] => { results := [.lit (.bool true)], args := [d1, d2, d3] }
  | _ => none }
def countsRow : OpenClaim := { program := "ytjnmpejcegmkhaa", sum := "1aab9008df9f7c6aab07e9c3db1c63d83e67592703dfec70f3a8fe7c7fc12c61", func := "prism/prismkeep.Counts", spec := "counts", apart := false }
def CountsSaid : Prop := countsRow.holds Try.pinned (OpenSpec.ofChange countsSpec)

/-- ITS FALSE NEIGHBOUR: 'it returns false'. Refute it at one input. -/
def countsWrong : ChangeSpec := { name := "counts", fn := fun _ => fun
  | [d1, d2, d3] => { results := [.lit (.bool false)], args := [d1, d2, d3] }
  | _ => none }
def CountsWrongFalsely : Prop := countsRow.holds Try.pinned (OpenSpec.ofChange countsWrong)

/- THE SECOND FORM. 'bulk': how many values and letters a reading holds, each counted each time it is reached (what is shared counts as often as it is met; a slice's spare places count too). A statement '..UptoSaid' is the law's where the arguments, and the package variables that the reading takes, are together of bulk at most 1048576: NARROWER than '..Said'. Prove '..Said' where nothing that the law and all that it calls make is longer than what came in: it says more and counts as full. Else prove '..UptoSaid'. A law counts once. -/
mutual
def uptoBulk {H : Type} : DataW H → Nat
  | .lit (.string bytes) => bytes.length + 1
  | .lit _ => 1
  | .nil => 1
  | .ptr d => uptoBulk d + 1
  | .slice elems spare => uptoBulkAll elems + uptoBulkAll spare + 1
  | .agg parts => uptoBulkAll parts + 1
  | .iface _ d => uptoBulk d + 1
  | .map entries => uptoBulkEntries entries + 1
  | .held _ => 1
def uptoBulkAll {H : Type} : List (DataW H) → Nat
  | [] => 0
  | d :: r => uptoBulk d + uptoBulkAll r
def uptoBulkEntries {H : Type} : List (Lit × DataW H) → Nat
  | [] => 0
  | x :: r => uptoBulkEntry x + uptoBulkEntries r
def uptoBulkEntry {H : Type} : Lit × DataW H → Nat
  | (.string bytes, d) => bytes.length + uptoBulk d + 1
  | (_, d) => uptoBulk d + 1
 end
def uptoSmall : (H : Type) → List (DataW H) → Bool := fun _ ds => decide (uptoBulkAll ds ≤ 1048576)
def OpenSpec.upto (s : _root_.Go.ChangeSpec) : _root_.Go.OpenSpec := { _root_.Go.OpenSpec.ofChange s with cond := some uptoSmall }

/-- 'prismlaw.News', WHERE WHAT IT READS IS OF BULK AT MOST 1048576: true; the input reads as it did. -/
def newsUptoRow : OpenClaim := { program := "ytjnmpejcegmkhaa", sum := "1aab9008df9f7c6aab07e9c3db1c63d83e67592703dfec70f3a8fe7c7fc12c61", func := "prism/prismlaw.News", spec := "news", recurses := true, apart := false, narrowed := true }
def NewsUptoSaid : Prop := newsUptoRow.holds Try.pinned (OpenSpec.upto newsSpec)

/-- 'prismlaw.Spawns', WHERE WHAT IT READS IS OF BULK AT MOST 1048576: true; the input reads as it did. -/
def spawnsUptoRow : OpenClaim := { program := "ytjnmpejcegmkhaa", sum := "1aab9008df9f7c6aab07e9c3db1c63d83e67592703dfec70f3a8fe7c7fc12c61", func := "prism/prismlaw.Spawns", spec := "spawns", recurses := true, apart := false, narrowed := true }
def SpawnsUptoSaid : Prop := spawnsUptoRow.holds Try.pinned (OpenSpec.upto spawnsSpec)

/-- 'prismlaw.Walks', WHERE WHAT IT READS IS OF BULK AT MOST 1048576: true; the input reads as it did. -/
def walksUptoRow : OpenClaim := { program := "ytjnmpejcegmkhaa", sum := "1aab9008df9f7c6aab07e9c3db1c63d83e67592703dfec70f3a8fe7c7fc12c61", func := "prism/prismlaw.Walks", spec := "walks", recurses := true, apart := false, narrowed := true }
def WalksUptoSaid : Prop := walksUptoRow.holds Try.pinned (OpenSpec.upto walksSpec)

/-- 'prismlaw.Changes', WHERE WHAT IT READS IS OF BULK AT MOST 1048576: true; the input reads as it did. -/
def changesUptoRow : OpenClaim := { program := "ytjnmpejcegmkhaa", sum := "1aab9008df9f7c6aab07e9c3db1c63d83e67592703dfec70f3a8fe7c7fc12c61", func := "prism/prismlaw.Changes", spec := "changes", recurses := true, apart := false, narrowed := true }
def ChangesUptoSaid : Prop := changesUptoRow.holds Try.pinned (OpenSpec.upto changesSpec)

/-- 'prismlaw.Rests', WHERE WHAT IT READS IS OF BULK AT MOST 1048576: true; the input reads as it did. -/
def restsUptoRow : OpenClaim := { program := "ytjnmpejcegmkhaa", sum := "1aab9008df9f7c6aab07e9c3db1c63d83e67592703dfec70f3a8fe7c7fc12c61", func := "prism/prismlaw.Rests", spec := "rests", recurses := true, apart := false, narrowed := true }
def RestsUptoSaid : Prop := restsUptoRow.holds Try.pinned (OpenSpec.upto restsSpec)

/-- 'prismlaw.All', WHERE WHAT IT READS IS OF BULK AT MOST 1048576: true; the input reads as it did. -/
def allUptoRow : OpenClaim := { program := "ytjnmpejcegmkhaa", sum := "1aab9008df9f7c6aab07e9c3db1c63d83e67592703dfec70f3a8fe7c7fc12c61", func := "prism/prismlaw.All", spec := "all", recurses := true, apart := false, narrowed := true }
def AllUptoSaid : Prop := allUptoRow.holds Try.pinned (OpenSpec.upto allSpec)

/-- 'prismkeep.Meets', WHERE WHAT IT READS IS OF BULK AT MOST 1048576: true; the input reads as it did. -/
def meetsUptoRow : OpenClaim := { program := "ytjnmpejcegmkhaa", sum := "1aab9008df9f7c6aab07e9c3db1c63d83e67592703dfec70f3a8fe7c7fc12c61", func := "prism/prismkeep.Meets", spec := "meets", apart := false, narrowed := true }
def MeetsUptoSaid : Prop := meetsUptoRow.holds Try.pinned (OpenSpec.upto meetsSpec)

/-- 'prismkeep.Alone', WHERE WHAT IT READS IS OF BULK AT MOST 1048576: true; the input reads as it did. -/
def aloneUptoRow : OpenClaim := { program := "ytjnmpejcegmkhaa", sum := "1aab9008df9f7c6aab07e9c3db1c63d83e67592703dfec70f3a8fe7c7fc12c61", func := "prism/prismkeep.Alone", spec := "alone", apart := false, narrowed := true }
def AloneUptoSaid : Prop := aloneUptoRow.holds Try.pinned (OpenSpec.upto aloneSpec)

/-- 'prismkeep.Inside', WHERE WHAT IT READS IS OF BULK AT MOST 1048576: true; the input reads as it did. -/
def insideUptoRow : OpenClaim := { program := "ytjnmpejcegmkhaa", sum := "1aab9008df9f7c6aab07e9c3db1c63d83e67592703dfec70f3a8fe7c7fc12c61", func := "prism/prismkeep.Inside", spec := "inside", apart := false, narrowed := true }
def InsideUptoSaid : Prop := insideUptoRow.holds Try.pinned (OpenSpec.upto insideSpec)

/-- 'prismkeep.Even', WHERE WHAT IT READS IS OF BULK AT MOST 1048576: true; the input reads as it did. -/
def evenUptoRow : OpenClaim := { program := "ytjnmpejcegmkhaa", sum := "1aab9008df9f7c6aab07e9c3db1c63d83e67592703dfec70f3a8fe7c7fc12c61", func := "prism/prismkeep.Even", spec := "even", apart := false, narrowed := true }
def EvenUptoSaid : Prop := evenUptoRow.holds Try.pinned (OpenSpec.upto evenSpec)

/-- 'prismkeep.Counts', WHERE WHAT IT READS IS OF BULK AT MOST 1048576: true; the input reads as it did. -/
def countsUptoRow : OpenClaim := { program := "ytjnmpejcegmkhaa", sum := "1aab9008df9f7c6aab07e9c3db1c63d83e67592703dfec70f3a8fe7c7fc12c61", func := "prism/prismkeep.Counts", spec := "counts", apart := false, narrowed := true }
def CountsUptoSaid : Prop := countsUptoRow.holds Try.pinned (OpenSpec.upto countsSpec)

end Rows
end Go.Proofs.Ytjnmpejcegmkhaa
