/- Contracts of package prismref's meeting: the phase Meet, where the kept one is met. No statement of the seat is proved here. -/
import Derived.Test.YtjnmpejcegmkhaaRefStep4
namespace Go.Proofs.Ytjnmpejcegmkhaa
open Go.RowKit

theorem ProcAt.ne {w : World} {L : Lay} {i j pb qb : Nat} {p q : Pr} (hp : ProcAt w L i pb p) (hq : ProcAt w L j qb q) (hne : qb ≠ pb) : j ≠ i := by
  intro e
  subst e
  have a := hp.eb
  have b := hq.eb
  rw [List.getD_eq_getElem?_getD, List.getElem?_eq_getElem hp.hi] at a b
  exact hne (b.symm.trans a)

/-- A process stays where it is when it or another is written. -/
theorem ProcAt.setP {w w' : World} {L : Lay} {i j pb qb : Nat} {p p' q : Pr} (hp : ProcAt w L i pb p) (hq : ProcAt w L j qb q) (hne : qb ≠ pb) {T : TypeId} (hw : PutB w w' pb (prCells p') T) : ProcAt w' (L.setP i p') j qb q := by
  have hji := hp.ne hq hne
  refine ⟨by simpa using hq.hi, (hw.other qb hne).trans hq.blk, ?_, ?_⟩
  · have := hq.eb
    simp only [List.getD_eq_getElem?_getD] at this ⊢
    rw [List.getElem?_set_ne (Ne.symm hji)]
    exact this
  · have := hq.ep
    simp only [List.getD_eq_getElem?_getD] at this ⊢
    rw [List.getElem?_set_ne (Ne.symm hji)]
    exact this

theorem ProcAt.setP_self {w w' : World} {L : Lay} {i pb : Nat} {p p' : Pr} (hp : ProcAt w L i pb p) (hw : PutB w w' pb (prCells p') 128) : ProcAt w' (L.setP i p') i pb p' := by
  have hi := hp.hi
  have hb := hp.eb
  refine ⟨by simpa using hi, hw.blk, ?_, ?_⟩
  · simp only [List.getD_eq_getElem?_getD] at hb ⊢
    rw [List.getElem?_set_self hi]
    rw [List.getElem?_eq_getElem hi] at hb ⊢
    exact hb
  · simp only [List.getD_eq_getElem?_getD]
    rw [List.getElem?_set_self hi]
    rfl

theorem Lay.setP_twice {w : World} {L : Lay} {i j pb qb : Nat} {p q : Pr} (hp : ProcAt w L i pb p) (hq : ProcAt w L j qb q) (hji : j ≠ i) (a b c : Pr) : ((L.setP i a).setP j b).setP i c = (L.setP j b).setP i c := by
  have hi := hp.hi
  have hj := hq.hi
  unfold Lay.setP
  simp only [List.getD_eq_getElem?_getD]
  congr 1
  apply List.ext_getElem?
  intro k
  by_cases e1 : k = i
  · subst e1
    rw [List.getElem?_set_self (by simpa using hi), List.getElem?_set_self (by simpa using hi)]
    rw [List.getElem?_set_ne hji, List.getElem?_set_self hi, List.getElem?_set_ne hji]
    rw [List.getElem?_eq_getElem hi]
    rfl
  · rw [List.getElem?_set_ne (Ne.symm e1), List.getElem?_set_ne (Ne.symm e1)]
    by_cases e2 : k = j
    · subst e2
      rw [List.getElem?_set_self (by simpa using hj), List.getElem?_set_self hj, List.getElem?_set_ne (Ne.symm hji)]
    · rw [List.getElem?_set_ne (Ne.symm e2), List.getElem?_set_ne (Ne.symm e2), List.getElem?_set_ne (Ne.symm e1)]

set_option maxHeartbeats 4000000 in
set_option maxRecDepth 100000 in
theorem meet_yes {w : World} {B : Nat} {L : Lay} (h : RefRep w B L) {i j pb qb : Nat} {p q : Pr} (hp : ProcAt w L i pb p) (hq : ProcAt w L j qb q) (hne : qb ≠ pb) (hph : p.phase = 8) (hm : p.mind = (j : Int)) (hno : meets L p q = true) (hn0 : 0 ≤ p.node) (hn : p.node ≤ 1000000) (draw : Int) :
    Calls Try.prog 88 #[.pointer (some ⟨L.tb, 0, none⟩), .pointer (some ⟨pb, 0, none⟩), I i, I draw] w fun e w' => e = .returned (.tuple #[]) ∧ RefRep w' B ((L.setP j { q with met := i }).setP i (settledPr { p with phase := 9 } { q with met := i } 1)) ∧ ChgT B [128] w w' := by
  have hwt := fun W (hb : Below w.heap.size w W) => waits_c (h.below hb) p.node p.slot
  have hji := hp.ne hq hne
  obtain ⟨f1, f2⟩ := nb_facts hp.blk
  obtain ⟨g1, _⟩ := nb_facts hq.blk
  have c3 := f1 3
  have c4 := f1 4
  have c7 := f1 7
  have c9 := f1 9
  have q3 := g1 3
  have q10 := g1 10
  simp only [prCells] at c3 c4 c7 c9 q3 q10
  simp at c3 c4 c7 c9 q3 q10
  rw [hph] at c3
  obtain ⟨g, cap, k8, d1, d2, d3, cg, lg⟩ := hq.slot h
  have hjl : (j : Int) < (L.procs.length : Int) := by have := hq.hi; omega
  have hj0 : (0 : Int) ≤ (j : Int) := by omega
  unfold meets at hno
  rw [hm] at c9 hno
  have HS : Hid (∀ W, PutB w W pb (prCells p) 128 → Calls Try.prog 120 #[.pointer (some ⟨pb, 0, none⟩), .pointer (some ⟨qb, 0, none⟩), I 1] ((W.setCell ⟨pb, 3, none⟩ (I 9)).setCell ⟨qb, 10, none⟩ (I i)) fun e w' => e = .returned (.tuple #[]) ∧ RefRep w' B ((L.setP j { q with met := i }).setP i (settledPr { p with phase := 9 } { q with met := i } 1)) ∧ ChgT B [128] w w') := by
    intro W hW
    have h1 : PutB w (W.setCell ⟨pb, 3, none⟩ (I 9)) pb (prCells { p with phase := 9 }) 128 := hW.set 3 (I 9)
    obtain ⟨r1, k1⟩ := hp.put h h1
    have hq1 := hp.setP hq hne h1
    have hp1 := hp.setP_self h1
    generalize W.setCell ⟨pb, 3, none⟩ (I 9) = W1 at *
    have h2 : PutB W1 (W1.setCell ⟨qb, 10, none⟩ (I i)) qb (prCells { q with met := i }) 128 := (PutB.refl hq1.blk).set 10 (I i)
    obtain ⟨r2, k2⟩ := hq1.put r1 h2
    have hp2 := hq1.setP hp1 hne.symm h2
    have hq2 := hq1.setP_self h2
    generalize W1.setCell ⟨qb, 10, none⟩ (I i) = W2 at *
    refine (settled_c hp2.blk hq2.blk hn0 hn 1 (by omega) (by omega)).mono ?_
    rintro e w' ⟨he, hp'⟩
    obtain ⟨r3, k3⟩ := hp2.put r2 hp'
    rw [Lay.setP_twice hp hq hji] at r3
    exact ⟨he, r3, (k1.trans k2).trans k3⟩
  have HB : Hid (w.heap[pb]? = some (.cells (prCells p) 128 (0, 0))) := hp.blk
  have HQ : Hid (w.heap[qb]? = some (.cells (prCells q) 128 (0, 0))) := hq.blk
  have HF : Hid (∀ W : World, W.heap[pb]? = some (.cells (prCells p) 128 (0, 0)) → W.heap[qb]? = some (.cells (prCells q) 128 (0, 0)) → W.cell? ⟨pb, 3, none⟩ = some (I 8) ∧ W.cell? ⟨pb, 4, none⟩ = some (I p.node) ∧ W.cell? ⟨pb, 7, none⟩ = some (I p.slot) ∧ W.cell? ⟨pb, 9, none⟩ = some (I j) ∧ W.cell? ⟨qb, 3, none⟩ = some (I q.phase) ∧ W.cell? ⟨qb, 10, none⟩ = some (I q.met) ∧ (∀ k, W.frozen? ⟨pb, k, none⟩ = false) ∧ (∀ k, W.frozen? ⟨qb, k, none⟩ = false)) := by
    intro W a1 a2
    obtain ⟨x1, x2⟩ := nb_facts a1
    obtain ⟨y1, y2⟩ := nb_facts a2
    refine ⟨by rw [x1, ← hph]; rfl, by rw [x1]; rfl, by rw [x1]; rfl, by rw [x1, ← hm]; rfl, by rw [y1]; rfl, by rw [y1]; rfl, x2, y2⟩
  replace hwt : Hid _ := hwt
  simp only [Bool.and_eq_true, decide_eq_true_eq] at hno
  obtain ⟨⟨a1, a2⟩, a3⟩ := hno
  have b1 : (waitsL p.node p.slot L.procs 0 == (j : Int)) = true := by simp [a1]
  have b2 : (q.phase == 6) = true := by simp [a2]
  have b3 : decide (q.met < 0) = true := by simp [a3]
  unfold maxLen at d2 d3
  clear h hp hq f1 g1 hph hm a1 a2 a3
  generalize waitsL p.node p.slot L.procs 0 = wl at *
  go_enter Try.func88, Try.ntmps88
  go_wp2_with fail
  go_quiet (fail)
  have hw1 := (PutB.refl HB.out).drewN nq
  have hq1 := (hw1.other qb hne).trans HQ.out
  have hb1 : Below w.heap.size w (w.drewN nq) := Below.drewN' (Below.refl _ _) nq
  clear c3 c4 c7 c9 q3 q10 f2 k8 cg
  generalize w.drewN nq = wq at *
  obtain ⟨c3, c4, c7, c9, q3, q10, f2, f3⟩ := HF.out wq hw1.blk hq1
  have HW1 : Hid _ := hw1
  have HB1 : Hid _ := hb1
  clear hw1 hb1 hq1
  have hne2 := hne.symm
  go_wp2_with fail
  go_quiet ((go_at_call 119; exact Calls.quiet_of_same (hwt.out _ (by first | exact HB1.out.drew | exact Below.drewN' HB1.out _ | exact HB1.out))))
  go_wp2_with fail
  first
  | refine (HS.out _ (HW1.out.drewN _)).mono ?_
  | refine (HS.out _ HW1.out).mono ?_
  | trace_state
  rintro e w2 ⟨rfl, hp2⟩
  go_wp2
  go_end0
  exact ⟨rfl, hp2⟩

end Go.Proofs.Ytjnmpejcegmkhaa
