/- Contracts of package prismref's meeting: the phase Meet. No statement of the seat is proved here. -/
import Derived.Test.YtjnmpejcegmkhaaRefStep3
namespace Go.Proofs.Ytjnmpejcegmkhaa
open Go.RowKit

/-- Does who is kept in mind still wait in the slot, and was not met? -/
def meets (L : Lay) (p q : Pr) : Bool := decide (waitsL p.node p.slot L.procs 0 = p.mind) && decide (q.phase = 6) && decide (q.met < 0)

set_option maxHeartbeats 4000000 in
set_option maxRecDepth 100000 in
theorem meet_no {w : World} {B : Nat} {L : Lay} (h : RefRep w B L) {i j pb qb : Nat} {p q : Pr} (hp : ProcAt w L i pb p) (hq : ProcAt w L j qb q) (hne : qb ≠ pb) (hph : p.phase = 8) (hm : p.mind = (j : Int)) (hno : meets L p q = false) (draw : Int) :
    Calls Try.prog 88 #[.pointer (some ⟨L.tb, 0, none⟩), .pointer (some ⟨pb, 0, none⟩), I i, I draw] w fun e w' => e = .returned (.tuple #[]) ∧ PutB w w' pb (prCells { p with phase := 9 }) 128 := by
  have hwt := fun W (hb : Below w.heap.size w W) => waits_c (h.below hb) p.node p.slot
  obtain ⟨f1, f2⟩ := nb_facts hp.blk
  obtain ⟨g1, _⟩ := nb_facts hq.blk
  have c3 := f1 3
  have c4 := f1 4
  have c7 := f1 7
  have c9 := f1 9
  have q3 := g1 3
  have q10 := g1 10
  simp only [prCells] at c3 c4 c7 c9 q3 q10
  simp at c3 c4 c7 c9 q3 q10
  rw [hph] at c3
  obtain ⟨g, cap, k8, d1, d2, d3, cg, lg⟩ := hq.slot h
  have hjl : (j : Int) < (L.procs.length : Int) := by have := hq.hi; omega
  have hj0 : (0 : Int) ≤ (j : Int) := by omega
  unfold meets at hno
  rw [hm] at c9 hno
  have HP : Hid (∀ W : World, PutB w W pb (prCells p) 128 → PutB w (W.setCell ⟨pb, 3, none⟩ (I 9)) pb (prCells { p with phase := 9 }) 128) := fun W hW => hW.set 3 (I 9)
  have HB : Hid (w.heap[pb]? = some (.cells (prCells p) 128 (0, 0))) := hp.blk
  have HQ : Hid (w.heap[qb]? = some (.cells (prCells q) 128 (0, 0))) := hq.blk
  have HF : Hid (∀ W : World, W.heap[pb]? = some (.cells (prCells p) 128 (0, 0)) → W.heap[qb]? = some (.cells (prCells q) 128 (0, 0)) → W.cell? ⟨pb, 3, none⟩ = some (I 8) ∧ W.cell? ⟨pb, 4, none⟩ = some (I p.node) ∧ W.cell? ⟨pb, 7, none⟩ = some (I p.slot) ∧ W.cell? ⟨pb, 9, none⟩ = some (I j) ∧ W.cell? ⟨qb, 3, none⟩ = some (I q.phase) ∧ W.cell? ⟨qb, 10, none⟩ = some (I q.met) ∧ (∀ k, W.frozen? ⟨pb, k, none⟩ = false)) := by
    intro W a1 a2
    obtain ⟨x1, x2⟩ := nb_facts a1
    obtain ⟨y1, _⟩ := nb_facts a2
    refine ⟨by rw [x1, ← hph]; rfl, by rw [x1]; rfl, by rw [x1]; rfl, by rw [x1, ← hm]; rfl, by rw [y1]; rfl, by rw [y1]; rfl, x2⟩
  replace hwt : Hid _ := hwt
  have hcase : ((waitsL p.node p.slot L.procs 0 == (j : Int)) = false) ∨ ((waitsL p.node p.slot L.procs 0 == (j : Int)) = true ∧ (q.phase == 6) = false) ∨ ((waitsL p.node p.slot L.procs 0 == (j : Int)) = true ∧ (q.phase == 6) = true ∧ decide (q.met < 0) = false) := by
    simp only [Bool.and_eq_false_iff, decide_eq_false_iff_not] at hno
    simp only [beq_eq_false_iff_ne, beq_iff_eq, decide_eq_false_iff_not, ne_eq]
    by_cases a1 : waitsL p.node p.slot L.procs 0 = (j : Int)
    · by_cases a2 : q.phase = 6
      · right; right; refine ⟨a1, a2, ?_⟩
        rcases hno with (h' | h') | h'
        · exact absurd a1 h'
        · exact absurd a2 h'
        · exact h'
      · right; left; exact ⟨a1, a2⟩
    · left; exact a1
  unfold maxLen at d2 d3
  clear h hp hq f1 g1 hph hm hno
  generalize waitsL p.node p.slot L.procs 0 = wl at *
  generalize L.procs.length = pl at *
  rcases hcase with b1 | ⟨b1, b2⟩ | ⟨b1, b2, b3⟩
  all_goals
    go_enter Try.func88, Try.ntmps88
    go_wp2_with fail
    go_quiet (fail)
    have hw1 := (PutB.refl HB.out).drewN nq
    have hq1 := (hw1.other qb hne).trans HQ.out
    have hb1 : Below w.heap.size w (w.drewN nq) := Below.drewN' (Below.refl _ _) nq
    clear c3 c4 c7 c9 q3 q10 f2 k8 cg
    generalize w.drewN nq = wq at *
    obtain ⟨c3, c4, c7, c9, q3, q10, f2⟩ := HF.out wq hw1.blk hq1
    have HW1 : Hid _ := hw1
    have HB1 : Hid _ := hb1
    clear hw1 hb1 hq1
    go_wp2_with fail
    go_quiet ((go_at_call 119; exact Calls.quiet_of_same (hwt.out _ (by first | exact HB1.out.drew | exact Below.drewN' HB1.out _ | exact HB1.out))))
    go_wp2
    go_end0
    first
    | exact ⟨rfl, HP.out _ (HW1.out.drewN _)⟩
    | exact ⟨rfl, (HP.out _ HW1.out).drewN _⟩

end Go.Proofs.Ytjnmpejcegmkhaa
