/- Contracts of package prismref's meeting, phase by phase: Slot, Taken, Grow, Shrink. No statement of the seat is proved here. -/
import Derived.Test.YtjnmpejcegmkhaaRefStep1
namespace Go.Proofs.Ytjnmpejcegmkhaa
open Go.RowKit

set_option maxHeartbeats 2000000 in
set_option maxRecDepth 100000 in
theorem meet_slot_free {w : World} {B : Nat} {L : Lay} (h : RefRep w B L) {i pb : Nat} {p : Pr} (hp : ProcAt w L i pb p) (hph : p.phase = 4) (draw : Int) (hw : waitsL p.node p.slot L.procs 0 < 0) :
    Calls Try.prog 88 #[.pointer (some ⟨L.tb, 0, none⟩), .pointer (some ⟨pb, 0, none⟩), I i, I draw] w fun e w' => e = .returned (.tuple #[]) ∧ PutB w w' pb (prCells { p with phase := 5 }) 128 := by
  have hwt := fun W (hb : Below w.heap.size w W) => waits_c (h.below hb) p.node p.slot
  obtain ⟨f1, f2⟩ := nb_facts hp.blk
  have c3 := f1 3
  have c4 := f1 4
  have c7 := f1 7
  simp only [prCells] at c3 c4 c7
  simp at c3 c4 c7
  rw [hph] at c3
  generalize waitsL p.node p.slot L.procs 0 = wl at *
  have HP : Hid (∀ W, PutB w W pb (prCells p) 128 → PutB w (W.setCell ⟨pb, 3, none⟩ (I 5)) pb (prCells { p with phase := 5 }) 128) := fun W hW => hW.set 3 (I 5)
  have HB : Hid (w.heap[pb]? = some (.cells (prCells p) 128 (0, 0))) := hp.blk
  replace hwt : Hid _ := hwt
  clear h hp f1 hph
  go_enter Try.func88, Try.ntmps88
  go_wp2_with fail
  go_quiet ((go_at_call 119; exact Calls.quiet_of_same (hwt.out _ (by first | exact (Below.refl _ _).drew | exact Below.drewN' (Below.refl _ _) _ | exact Below.refl _ _))))
  go_wp2
  go_end0
  first
  | exact ⟨rfl, HP.out _ ((PutB.refl HB.out).drewN _)⟩
  | exact ⟨rfl, (HP.out _ (PutB.refl HB.out)).drewN _⟩

def slotPr (p q : Pr) (j : Int) : Pr := if 0 ≤ q.met then { p with phase := 11 } else { p with mind := j, phase := 8 }

set_option maxHeartbeats 2000000 in
set_option maxRecDepth 100000 in
theorem meet_slot_who {w : World} {B : Nat} {L : Lay} (h : RefRep w B L) {i j pb qb : Nat} {p q : Pr} (hp : ProcAt w L i pb p) (hq : ProcAt w L j qb q) (hph : p.phase = 4) (draw : Int) (hw : waitsL p.node p.slot L.procs 0 = (j : Int)) :
    Calls Try.prog 88 #[.pointer (some ⟨L.tb, 0, none⟩), .pointer (some ⟨pb, 0, none⟩), I i, I draw] w fun e w' => e = .returned (.tuple #[]) ∧ PutB w w' pb (prCells (slotPr p q j)) 128 := by
  have hwt := fun W (hb : Below w.heap.size w W) => waits_c (h.below hb) p.node p.slot
  rw [hw] at hwt
  obtain ⟨f1, f2⟩ := nb_facts hp.blk
  obtain ⟨g1, _⟩ := nb_facts hq.blk
  have c3 := f1 3
  have c4 := f1 4
  have c7 := f1 7
  have c9 := f1 9
  have q10 := g1 10
  simp only [prCells] at c3 c4 c7 c9 q10
  simp at c3 c4 c7 c9 q10
  rw [hph] at c3
  have k8 := h.pv_cell
  obtain ⟨ao, cap, e1, d1, d2, d3, hx⟩ := h.proc_at
  rw [e1] at k8
  obtain ⟨g, eg, cg⟩ := hx j hq.hi
  have eqb : (L.procs[j]'hq.hi).1 = qb := by
    have := hq.eb
    rw [List.getD_eq_getElem?_getD, List.getElem?_eq_getElem hq.hi] at this
    exact this
  rw [eqb] at cg
  subst eg
  have hjl : (j : Int) < (L.procs.length : Int) := by have := hq.hi; omega
  have hj0 : decide ((j : Int) < 0) = false := by simp
  have HB : Hid (w.heap[pb]? = some (.cells (prCells p) 128 (0, 0))) := hp.blk
  replace hwt : Hid _ := hwt
  unfold maxLen at d2 d3
  clear h hp hq f1 g1 hph hw e1 hx eqb
  generalize L.procs.length = pl at *
  by_cases hm : 0 ≤ q.met
  · have HP : Hid (∀ W, PutB w W pb (prCells p) 128 → PutB w (W.setCell ⟨pb, 3, none⟩ (I 11)) pb (prCells (slotPr p q j)) 128) := by
      have e : slotPr p q j = { p with phase := 11 } := by unfold slotPr; rw [if_pos hm]
      rw [e]; exact fun W hW => hW.set 3 (I 11)
    go_enter Try.func88, Try.ntmps88
    go_wp2_with fail
    go_quiet ((go_at_call 119; exact Calls.quiet_of_same (hwt.out _ (by first | exact (Below.refl _ _).drew | exact Below.drewN' (Below.refl _ _) _ | exact Below.refl _ _))))
    go_wp2
    go_end0
    first
    | exact ⟨rfl, HP.out _ ((PutB.refl HB.out).drewN _)⟩
    | exact ⟨rfl, (HP.out _ (PutB.refl HB.out)).drewN _⟩
  · have hd : decide (0 ≤ q.met) = false := by simpa using hm
    have HP : Hid (∀ W, PutB w W pb (prCells p) 128 → PutB w ((W.setCell ⟨pb, 9, none⟩ (I j)).setCell ⟨pb, 3, none⟩ (I 8)) pb (prCells (slotPr p q j)) 128) := by
      have e : slotPr p q j = { p with mind := j, phase := 8 } := by unfold slotPr; rw [if_neg hm]
      rw [e]; exact fun W hW => (hW.set 9 (I j)).set 3 (I 8)
    go_enter Try.func88, Try.ntmps88
    go_wp2_with fail
    go_quiet ((go_at_call 119; exact Calls.quiet_of_same (hwt.out _ (by first | exact (Below.refl _ _).drew | exact Below.drewN' (Below.refl _ _) _ | exact Below.refl _ _))))
    go_wp2
    go_end0
    first
    | exact ⟨rfl, HP.out _ ((PutB.refl HB.out).drewN _)⟩
    | exact ⟨rfl, (HP.out _ (PutB.refl HB.out)).drewN _⟩

end Go.Proofs.Ytjnmpejcegmkhaa
