/-
  No cell of these rows narrows 'for every input' (looked for: loops, veiled, ifaces, maps, wideKeys, modest, calm, conditions, laid).
  DERIVED. THE GIVEN ROWS OF THIS SEAT. 4 by the template 'for every input the law returns true; each argument reads behind the call as it read before'; 0 by the template 'total and deterministic' (their statements: YtjnmpejcegmkhabTotals.lean).
  GIVEN WITH THE SEED: the statements are not yours to turn. If you find one false, say at which input.
  Laid BY PROGRAM, IN A SANDBOX (cutbox-rows.mjs): the forced cells as the released guide's own fill.sh prints them over the translation c0cc1693c16b85dc… (all of the seat's roots in one cut). By AI agents, Wed Nov 11 2026. No macro, syntax, notation, axiom, sorry.
-/
import Derived.Test.YtjnmpejcegmkhabChecked
import GoSem.Claim
import GoSem.ClaimJoined
import GoSem.ClaimMapViews
import Derived.JoinedTies
import Derived.KernelRfl
namespace Go.Proofs.Ytjnmpejcegmkhab
/- THE CELL 'sum', in the pinned program and in every row, IS THE sha256 OF THE DUMP (.gsa) THAT YtjnmpejcegmkhabProg.lean LOADS. Nothing in Lean hashes anything: it is a label: what it is worth is what the hold of that sum in a sandbox is worth. -/
noncomputable def Try.pinned : Pinned := { name := "ytjnmpejcegmkhab", sum := "c0cc1693c16b85dc84bd3290f81c8975b5360fa6555bbb1f30242a07d6e29f2a", checked := Try.checked }
namespace Rows
def none {H : Type} : Left H := { results := [], args := [] }

/-- 'prismkeep.Kept': WHATEVER THE INPUT: true; the input reads as it did. -/
def keptSpec : ChangeSpec := { name := "kept", fn := fun _ => fun
  | [d1, d2, d3] => { results := [.lit (.bool true)], args := [d1, d2, d3] }
  | _ => none }
def keptRow : OpenClaim := { program := "ytjnmpejcegmkhab", sum := "c0cc1693c16b85dc84bd3290f81c8975b5360fa6555bbb1f30242a07d6e29f2a", func := "prism/prismkeep.Kept", spec := "kept", apart := false }
def KeptSaid : Prop := keptRow.holds Try.pinned (OpenSpec.ofChange keptSpec)

/-- ITS FALSE NEIGHBOUR: 'it returns false'. Refute it at one input. -/
def keptWrong : ChangeSpec := { name := "kept", fn := fun _ => fun
  | [d1, d2, d3] => { results := [.lit (.bool false)], args := [d1, d2, d3] }
  | _ => none }
def KeptWrongFalsely : Prop := keptRow.holds Try.pinned (OpenSpec.ofChange keptWrong)

/-- 'prismkeep.Calm': WHATEVER THE INPUT: true; the input reads as it did. -/
def calmSpec : ChangeSpec := { name := "calm", fn := fun _ => fun
  | [d1, d2, d3] => { results := [.lit (.bool true)], args := [d1, d2, d3] }
  | _ => none }
def calmRow : OpenClaim := { program := "ytjnmpejcegmkhab", sum := "c0cc1693c16b85dc84bd3290f81c8975b5360fa6555bbb1f30242a07d6e29f2a", func := "prism/prismkeep.Calm", spec := "calm", apart := false }
def CalmSaid : Prop := calmRow.holds Try.pinned (OpenSpec.ofChange calmSpec)

/-- ITS FALSE NEIGHBOUR: 'it returns false'. Refute it at one input. -/
def calmWrong : ChangeSpec := { name := "calm", fn := fun _ => fun
  | [d1, d2, d3] => { results := [.lit (.bool false)], args := [d1, d2, d3] }
  | _ => none }
def CalmWrongFalsely : Prop := calmRow.holds Try.pinned (OpenSpec.ofChange calmWrong)

/-- 'prismkeep.Queue': WHATEVER THE INPUT: true; the input reads as it did. -/
def queueSpec : ChangeSpec := { name := "queue", fn := fun _ => fun
  | [d1, d2] => { results := [.lit (.bool true)], args := [d1, d2] }
  | _ => none }
def queueRow : OpenClaim := { program := "ytjnmpejcegmkhab", sum := "c0cc1693c16b85dc84bd3290f81c8975b5360fa6555bbb1f30242a07d6e29f2a", func := "prism/prismkeep.Queue", spec := "queue", apart := false }
def QueueSaid : Prop := queueRow.holds Try.pinned (OpenSpec.ofChange queueSpec)

/-- ITS FALSE NEIGHBOUR: 'it returns false'. Refute it at one input. -/
def queueWrong : ChangeSpec := { name := "queue", fn := fun _ => fun
  | [d1, d2] => { results := [.lit (.bool false)], args := [d1, d2] }
  | _ => none }
def QueueWrongFalsely : Prop := queueRow.holds Try.pinned (OpenSpec.ofChange queueWrong)

/-- 'prismkeep.Rested': WHATEVER THE INPUT: true; the input reads as it did. -/
def restedSpec : ChangeSpec := { name := "rested", fn := fun _ => fun
  | [d1, d2, d3, d4] => { results := [.lit (.bool true)], args := [d1, d2, d3, d4] }
  | _ => none }
def restedRow : OpenClaim := { program := "ytjnmpejcegmkhab", sum := "c0cc1693c16b85dc84bd3290f81c8975b5360fa6555bbb1f30242a07d6e29f2a", func := "prism/prismkeep.Rested", spec := "rested", apart := false }
def RestedSaid : Prop := restedRow.holds Try.pinned (OpenSpec.ofChange restedSpec)

/-- ITS FALSE NEIGHBOUR: 'it returns false'. Refute it at one input. -/
def restedWrong : ChangeSpec := { name := "rested", fn := fun _ => fun
  | [d1, d2, d3, d4] => { results := [.lit (.bool false)], args := [d1, d2, d3, d4] }
  | _ => none }
def RestedWrongFalsely : Prop := restedRow.holds Try.pinned (OpenSpec.ofChange restedWrong)

/- THE SECOND FORM. 'bulk': how many values and letters a reading holds, each counted each time it is reached (what is shared counts as often as it is met; a slice's spare places count too). A statement '..UptoSaid' is the law's where the arguments, and the package variables that the reading takes, are together of bulk at most 1048576: NARROWER than '..Said'. Prove '..Said' where nothing that the law and all that it calls make is longer than what came in: it says more and counts as full. Else prove '..UptoSaid'. A law counts once. -/
mutual
def uptoBulk {H : Type} : DataW H → Nat
  | .lit (.string bytes) => bytes.length + 1
  | .lit _ => 1
  | .nil => 1
  | .ptr d => uptoBulk d + 1
  | .slice elems spare => uptoBulkAll elems + uptoBulkAll spare + 1
  | .agg parts => uptoBulkAll parts + 1
  | .iface _ d => uptoBulk d + 1
  | .map entries => uptoBulkEntries entries + 1
  | .held _ => 1
def uptoBulkAll {H : Type} : List (DataW H) → Nat
  | [] => 0
  | d :: r => uptoBulk d + uptoBulkAll r
def uptoBulkEntries {H : Type} : List (Lit × DataW H) → Nat
  | [] => 0
  | x :: r => uptoBulkEntry x + uptoBulkEntries r
def uptoBulkEntry {H : Type} : Lit × DataW H → Nat
  | (.string bytes, d) => bytes.length + uptoBulk d + 1
  | (_, d) => uptoBulk d + 1
 end
def uptoSmall : (H : Type) → List (DataW H) → Bool := fun _ ds => decide (uptoBulkAll ds ≤ 1048576)
def OpenSpec.upto (s : _root_.Go.ChangeSpec) : _root_.Go.OpenSpec := { _root_.Go.OpenSpec.ofChange s with cond := some uptoSmall }

/-- 'prismkeep.Kept', WHERE WHAT IT READS IS OF BULK AT MOST 1048576: true; the input reads as it did. -/
def keptUptoRow : OpenClaim := { program := "ytjnmpejcegmkhab", sum := "c0cc1693c16b85dc84bd3290f81c8975b5360fa6555bbb1f30242a07d6e29f2a", func := "prism/prismkeep.Kept", spec := "kept", apart := false, narrowed := true }
def KeptUptoSaid : Prop := keptUptoRow.holds Try.pinned (OpenSpec.upto keptSpec)

/-- 'prismkeep.Calm', WHERE WHAT IT READS IS OF BULK AT MOST 1048576: true; the input reads as it did. -/
def calmUptoRow : OpenClaim := { program := "ytjnmpejcegmkhab", sum := "c0cc1693c16b85dc84bd3290f81c8975b5360fa6555bbb1f30242a07d6e29f2a", func := "prism/prismkeep.Calm", spec := "calm", apart := false, narrowed := true }
def CalmUptoSaid : Prop := calmUptoRow.holds Try.pinned (OpenSpec.upto calmSpec)

/-- 'prismkeep.Queue', WHERE WHAT IT READS IS OF BULK AT MOST 1048576: true; the input reads as it did. -/
def queueUptoRow : OpenClaim := { program := "ytjnmpejcegmkhab", sum := "c0cc1693c16b85dc84bd3290f81c8975b5360fa6555bbb1f30242a07d6e29f2a", func := "prism/prismkeep.Queue", spec := "queue", apart := false, narrowed := true }
def QueueUptoSaid : Prop := queueUptoRow.holds Try.pinned (OpenSpec.upto queueSpec)

/-- 'prismkeep.Rested', WHERE WHAT IT READS IS OF BULK AT MOST 1048576: true; the input reads as it did. -/
def restedUptoRow : OpenClaim := { program := "ytjnmpejcegmkhab", sum := "c0cc1693c16b85dc84bd3290f81c8975b5360fa6555bbb1f30242a07d6e29f2a", func := "prism/prismkeep.Rested", spec := "rested", apart := false, narrowed := true }
def RestedUptoSaid : Prop := restedUptoRow.holds Try.pinned (OpenSpec.upto restedSpec)

end Rows
end Go.Proofs.Ytjnmpejcegmkhab
