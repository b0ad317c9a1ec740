/- The walk of the statement News: for every configuration the call answers true, and what was there is as it was. The walk of the statement Spawns. The walk of the statement Spawns: for every configuration and script the call answers true, and what was there is as it was. No statement of the seat is proved here. -/
import Derived.Test.YtjnmpejcegmkhaaNew1P
import Derived.Test.YtjnmpejcegmkhaaSpA
import Derived.Deep.QuietTactic
import Derived.BigQuiet
namespace Go.Proofs.Ytjnmpejcegmkhaa
open Go.RowKit
set_option linter.unusedVariables false

theorem RefRep.base {w : World} {B B' : Nat} {L : Lay} (h : RefRep w B L) (hb : B' ≤ B) : RefRep w B' L := h.no.elim
theorem PRep.base {w : World} {B B' : Nat} {L : PLay} (h : PRep w B L) (hb : B' ≤ B) : PRep w B' L :=
  ⟨h.tree, Nat.le_trans hb h.treeB, h.len, ownsRow_mono h.prow hb, fun v hv => ownsRow_mono (h.items v hv) hb, h.ind⟩

/-- A script as it lies in memory: n steps of three numbers each. -/
structure ScriptAt (w : World) (v : Value) (n : Nat) (l : Nat → Int × Int × Int) : Prop where
  form : ∃ ao cap, v = .slice ao n cap ∧ n ≤ cap ∧ n ≤ maxLen ∧ ∀ i, i < n → ∃ b off, ao = some ⟨b, off, none⟩ ∧ b < w.heap.size ∧
    w.cell? ⟨b, off + i * 3, none⟩ = some (I (l i).1) ∧ w.cell? ⟨b, off + i * 3 + 1, none⟩ = some (I (l i).2.1) ∧ w.cell? ⟨b, off + i * 3 + 2, none⟩ = some (I (l i).2.2)

def isIn (ks : List Int) (k : Int) : Bool := ks.any fun x => x == k
def spKinds : List Int := [1, 2, 3, 4, 5, 6, 7, 11]
theorem isIn_succ (k : Int) (j : Nat) (hj : j < 8) : isIn (spKinds.take (j + 1)) k = (isIn (spKinds.take j) k || (spKinds.getD j 0 == k)) := by
  rw [take_succ_get spKinds j hj]
  simp only [isIn, List.any_append, List.any_cons, List.any_nil, Bool.or_false, List.getD_eq_getElem?_getD]
  rw [List.getElem?_eq_getElem hj]
  rfl
theorem isIn_all (k : Int) (h : isIn spKinds k = true) : k = 1 ∨ k = 2 ∨ k = 3 ∨ k = 4 ∨ k = 5 ∨ k = 6 ∨ k = 7 ∨ k = 11 := by
  simp [isIn, spKinds] at h
  omega
theorem kind_cell {w : World} {kb : Nat} (h : w.heap[kb]? = some (.cells #[I 1, I 2, I 3, I 4, I 5, I 6, I 7, I 11] 3 (0, 0))) (j : Nat) (hj : j < 8) : w.cell? ⟨kb, j, none⟩ = some (I (spKinds.getD j 0)) := by
  rw [block_cell h]
  have : j = 0 ∨ j = 1 ∨ j = 2 ∨ j = 3 ∨ j = 4 ∨ j = 5 ∨ j = 6 ∨ j = 7 := by omega
  rcases this with rfl | rfl | rfl | rfl | rfl | rfl | rfl | rfl <;> rfl

theorem ScriptAt.below {w w' : World} {v : Value} {n : Nat} {l : Nat → Int × Int × Int} (h : ScriptAt w v n l) (hb : Below w.heap.size w w') : ScriptAt w' v n l := by
  obtain ⟨ao, cap, h1, h2, h3, h4⟩ := h.form
  refine ⟨⟨ao, cap, h1, h2, h3, fun i hi => ?_⟩⟩
  obtain ⟨b, off, e, lb, c0, c1, c2⟩ := h4 i hi
  exact ⟨b, off, e, Nat.lt_of_lt_of_le lb hb.size, (hb.cell (p := ⟨b, off + i * 3, none⟩) lb).trans c0, (hb.cell (p := ⟨b, off + i * 3 + 1, none⟩) lb).trans c1, (hb.cell (p := ⟨b, off + i * 3 + 2, none⟩) lb).trans c2⟩

end Go.Proofs.Ytjnmpejcegmkhaa
