/- Contracts of package prismref's meeting, phase by phase: Wide, Slot, Claim, Wait. No statement of the seat is proved here. -/
import Derived.Test.YtjnmpejcegmkhaaRefStep0
import Derived.Deep.QuietTactic
import Derived.BigQuiet
namespace Go.Proofs.Ytjnmpejcegmkhaa
open Go.RowKit

/-- The cells of process i, as the walks ask for them. -/
structure ProcAt (w : World) (L : Lay) (i : Nat) (pb : Nat) (p : Pr) : Prop where
  hi : i < L.procs.length
  blk : w.heap[pb]? = some (.cells (prCells p) 128 (0, 0))
  eb : (L.procs.getD i (0, p)).1 = pb
  ep : (L.procs.getD i (0, p)).2 = p

theorem RefRep.procAt {w : World} {B : Nat} {L : Lay} (h : RefRep w B L) {i : Nat} (hi : i < L.procs.length) : ProcAt w L i (L.procs[i]).1 (L.procs[i]).2 :=
  ⟨hi, (h.pblk i hi).1, by simp [List.getD_eq_getElem?_getD, List.getElem?_eq_getElem hi], by simp [List.getD_eq_getElem?_getD, List.getElem?_eq_getElem hi]⟩

theorem PutB.drewN {w0 w : World} {b : Nat} {cs : Array Value} {T : TypeId} (h : PutB w0 w b cs T) (n : Nat) : PutB w0 (w.drewN n) b cs T := by
  induction n with
  | zero => exact h
  | succ n ih => exact ih.drew

theorem ProcAt.put {w w' : World} {B : Nat} {L : Lay} {i pb : Nat} {p p' : Pr} (h : ProcAt w L i pb p) (hr : RefRep w B L) (hp : PutB w w' pb (prCells p') 128) : RefRep w' B (L.setP i p') ∧ ChgT B [128] w w' := by
  have e : (L.procs[i]'h.hi).1 = pb := by
    have := h.eb
    rw [List.getD_eq_getElem?_getD, List.getElem?_eq_getElem h.hi] at this
    exact this
  have hb := hr.pblk i h.hi
  rw [e] at hb
  exact ⟨hr.putP h.hi (by rw [e]; exact hp), hp.chg hb.2 hb.1 (by simp)⟩

set_option maxHeartbeats 2000000 in
set_option maxRecDepth 100000 in
theorem meet_wide {w : World} {B : Nat} {L : Lay} (h : RefRep w B L) {i pb v : Nat} {p : Pr} (hp : ProcAt w L i pb p) (hph : p.phase = 3) (hv : p.node = (v : Int)) (hvl : v < L.past.length) (draw : Int) (m : Nat) (hm : widthH (L.hist v) = (m : Int)) (hm1 : 1 ≤ m) (hm4 : m ≤ 1000) :
    Calls Try.prog 88 #[.pointer (some ⟨L.tb, 0, none⟩), .pointer (some ⟨pb, 0, none⟩), I i, I draw] w fun e w' => e = .returned (.tuple #[]) ∧ PutB w w' pb (prCells { p with wide := m, slot := draw % m, phase := 4 }) 128 := by
  have hw := width_c h v hvl
  have hrm := fun W => remainder_c draw m hm1 hm4 W
  rw [hm] at hw
  obtain ⟨f1, f2⟩ := nb_facts hp.blk
  have c3 := f1 3
  have c4 := f1 4
  have c6 := f1 6
  have c7 := f1 7
  simp only [prCells] at c3 c4 c6 c7
  simp at c3 c4 c6 c7
  rw [hph] at c3
  rw [hv] at c4
  have HP : Hid (PutB w (((w.setCell ⟨pb, 6, none⟩ (I m)).setCell ⟨pb, 7, none⟩ (I (draw % m))).setCell ⟨pb, 3, none⟩ (I 4)) pb (prCells { p with wide := m, slot := draw % m, phase := 4 }) 128) := (((PutB.refl hp.blk).set 6 (I m)).set 7 (I (draw % m))).set 3 (I 4)
  replace hrm : Hid _ := hrm
  clear h hp f1 hph hv hm
  go_enter Try.func88, Try.ntmps88
  go_wp2_with fail
  refine hw.mono ?_
  rintro e w1 ⟨rfl, rfl⟩
  clear hw
  go_wp2_with fail
  refine (hrm.out _).mono ?_
  rintro e w2 ⟨rfl, rfl⟩
  go_wp2
  go_end0
  exact ⟨rfl, HP.out⟩

set_option maxHeartbeats 2000000 in
set_option maxRecDepth 100000 in
theorem meet_claim {w : World} {B : Nat} {L : Lay} (h : RefRep w B L) {i pb : Nat} {p : Pr} (hp : ProcAt w L i pb p) (hph : p.phase = 5) (draw : Int) (hw : waitsL p.node p.slot L.procs 0 < 0) :
    Calls Try.prog 88 #[.pointer (some ⟨L.tb, 0, none⟩), .pointer (some ⟨pb, 0, none⟩), I i, I draw] w fun e w' => e = .returned (.tuple #[]) ∧ PutB w w' pb (prCells { p with phase := 6, met := -1, pat := L.c.spin }) 128 := by
  have hwt := fun W (hb : Below w.heap.size w W) => waits_c (h.below hb) p.node p.slot
  have k5 : w.cell? ⟨L.tb, 5, none⟩ = some (I L.c.spin) := by rw [block_cell h.tree]; rfl
  have hnt : L.tb ≠ pb := by
    intro e
    have h1 := h.tree
    rw [e, hp.blk] at h1
    simp at h1
  obtain ⟨f1, f2⟩ := nb_facts hp.blk
  have c3 := f1 3
  have c4 := f1 4
  have c7 := f1 7
  have c8 := f1 8
  have c10 := f1 10
  simp only [prCells] at c3 c4 c7 c8 c10
  simp at c3 c4 c7 c8 c10
  rw [hph] at c3
  generalize waitsL p.node p.slot L.procs 0 = wl at *
  have HP : Hid (∀ W, PutB w W pb (prCells p) 128 → PutB w ((((W.setCell ⟨pb, 3, none⟩ (I 9)).setCell ⟨pb, 3, none⟩ (I 6)).setCell ⟨pb, 10, none⟩ (I (-1))).setCell ⟨pb, 8, none⟩ (I L.c.spin)) pb (prCells { p with phase := 6, met := -1, pat := L.c.spin }) 128) := fun W hW => (((hW.set 3 (I 9)).set 3 (I 6)).set 10 (I (-1))).set 8 (I L.c.spin)
  have HB : Hid (w.heap[pb]? = some (.cells (prCells p) 128 (0, 0))) := hp.blk
  replace hwt : Hid _ := hwt
  clear h hp f1 hph
  go_enter Try.func88, Try.ntmps88
  go_wp2_with fail
  go_quiet ((go_at_call 119; exact Calls.quiet_of_same (hwt.out _ (by first | exact (Below.refl _ _).drew | exact Below.drewN' (Below.refl _ _) _ | exact Below.refl _ _))))
  go_wp2
  go_end0
  first
  | exact ⟨rfl, HP.out _ ((PutB.refl HB.out).drewN _)⟩
  | exact ⟨rfl, (HP.out _ (PutB.refl HB.out)).drewN _⟩

set_option maxHeartbeats 2000000 in
set_option maxRecDepth 100000 in
theorem meet_claim_no {w : World} {B : Nat} {L : Lay} (h : RefRep w B L) {i pb : Nat} {p : Pr} (hp : ProcAt w L i pb p) (hph : p.phase = 5) (draw : Int) (hw : 0 ≤ waitsL p.node p.slot L.procs 0) :
    Calls Try.prog 88 #[.pointer (some ⟨L.tb, 0, none⟩), .pointer (some ⟨pb, 0, none⟩), I i, I draw] w fun e w' => e = .returned (.tuple #[]) ∧ PutB w w' pb (prCells { p with phase := 9 }) 128 := by
  have hwt := fun W (hb : Below w.heap.size w W) => waits_c (h.below hb) p.node p.slot
  obtain ⟨f1, f2⟩ := nb_facts hp.blk
  have c3 := f1 3
  have c4 := f1 4
  have c7 := f1 7
  simp only [prCells] at c3 c4 c7
  simp at c3 c4 c7
  rw [hph] at c3
  generalize waitsL p.node p.slot L.procs 0 = wl at *
  have hd : decide (wl < 0) = false := by simp; omega
  have HP : Hid (∀ W, PutB w W pb (prCells p) 128 → PutB w (W.setCell ⟨pb, 3, none⟩ (I 9)) pb (prCells { p with phase := 9 }) 128) := fun W hW => hW.set 3 (I 9)
  have HB : Hid (w.heap[pb]? = some (.cells (prCells p) 128 (0, 0))) := hp.blk
  replace hwt : Hid _ := hwt
  clear h hp f1 hph
  go_enter Try.func88, Try.ntmps88
  go_wp2_with fail
  go_quiet ((go_at_call 119; exact Calls.quiet_of_same (hwt.out _ (by first | exact (Below.refl _ _).drew | exact Below.drewN' (Below.refl _ _) _ | exact Below.refl _ _))))
  go_wp2
  go_end0
  first
  | exact ⟨rfl, HP.out _ ((PutB.refl HB.out).drewN _)⟩
  | exact ⟨rfl, (HP.out _ (PutB.refl HB.out)).drewN _⟩

def waitPr (p : Pr) : Pr := if 0 ≤ p.met then { p with phase := 7 } else if 0 < p.pat then { p with pat := p.pat - 1 } else { p with phase := 10 }

set_option maxHeartbeats 2000000 in
set_option maxRecDepth 100000 in
theorem meet_wait {w : World} {L : Lay} {i pb : Nat} {p : Pr} (hb : w.heap[pb]? = some (.cells (prCells p) 128 (0, 0))) (hph : p.phase = 6) (hp9 : p.pat ≤ 1000000) (draw : Int) :
    Calls Try.prog 88 #[.pointer (some ⟨L.tb, 0, none⟩), .pointer (some ⟨pb, 0, none⟩), I i, I draw] w fun e w' => e = .returned (.tuple #[]) ∧ PutB w w' pb (prCells (waitPr p)) 128 := by
  obtain ⟨f1, f2⟩ := nb_facts hb
  have c3 := f1 3
  have c8 := f1 8
  have c10 := f1 10
  simp only [prCells] at c3 c8 c10
  simp at c3 c8 c10
  rw [hph] at c3
  by_cases hm : 0 ≤ p.met
  · have HP : Hid (PutB w (w.setCell ⟨pb, 3, none⟩ (I 7)) pb (prCells (waitPr p)) 128) := by
      have e : waitPr p = { p with phase := 7 } := by unfold waitPr; rw [if_pos hm]
      rw [e]; exact (PutB.refl hb).set 3 (I 7)
    clear f1 hph hb
    go_enter Try.func88, Try.ntmps88
    go_wp2
    go_end0
    exact ⟨rfl, HP.out⟩
  · have hd : decide (0 ≤ p.met) = false := by simpa using hm
    by_cases hq : 0 < p.pat
    · have HP : Hid (PutB w (w.setCell ⟨pb, 8, none⟩ (I (p.pat - 1))) pb (prCells (waitPr p)) 128) := by
        have e : waitPr p = { p with pat := p.pat - 1 } := by unfold waitPr; rw [if_neg hm, if_pos hq]
        rw [e]; exact (PutB.refl hb).set 8 (I (p.pat - 1))
      clear f1 hph hb
      go_enter Try.func88, Try.ntmps88
      go_wp2
      go_end0
      exact ⟨rfl, HP.out⟩
    · have hd2 : decide (0 < p.pat) = false := by simpa using hq
      have HP : Hid (PutB w (w.setCell ⟨pb, 3, none⟩ (I 10)) pb (prCells (waitPr p)) 128) := by
        have e : waitPr p = { p with phase := 10 } := by unfold waitPr; rw [if_neg hm, if_neg hq]
        rw [e]; exact (PutB.refl hb).set 3 (I 10)
      clear f1 hph hb
      go_enter Try.func88, Try.ntmps88
      go_wp2
      go_end0
      exact ⟨rfl, HP.out⟩

end Go.Proofs.Ytjnmpejcegmkhaa
