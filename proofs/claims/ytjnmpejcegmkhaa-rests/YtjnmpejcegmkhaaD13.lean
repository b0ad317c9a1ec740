/- A step of a script that spawns, or looks: the statements' own step answers true, and both trees go on alike. No statement of the seat is proved here. -/
import Derived.Test.YtjnmpejcegmkhaaDBoth
import Derived.Deep.RegionWith
namespace Go.Proofs.Ytjnmpejcegmkhaa
open Go.RowKit

set_option maxHeartbeats 4000000 in
theorem cstep_seven {w : World} {B : Nat} {c : Conf} {lb : Nat} {L : Lay} {P : PLay} (h : CSt w B c lb L P) (a b : Int) :
    Calls Try.prog 33 #[.pointer (some ⟨lb, 0, none⟩), .agg #[I 7, I a, I b]] w fun e w' => e = .returned (.bool true) ∧ Below w.heap.size w w' := by
  have hc := fun W (hb : Below w.heap.size w W) => sameProc_agree (h.below hb).lawRep (h.below hb).ref (h.rel.rel.agree h.rel.ck.si (h.below hb).prog) a
  replace hc : Hid _ := hc
  clear h
  go_enter Try.func33, Try.ntmps33
  go_wp2_with fail
  refine (hc.out _ ((Below.refl _ _).alloc (Nat.le_refl _) _)).mono ?_
  rintro e w1 ⟨rfl, hb1⟩
  go_wp2
  go_ret
  exact ⟨rfl, ((Below.refl _ _).alloc (Nat.le_refl _) _).trans (hb1.mono (by simp))⟩

set_option maxHeartbeats 4000000 in
theorem cstep_eleven {w : World} {B : Nat} {c : Conf} {lb : Nat} {L : Lay} {P : PLay} (h : CSt w B c lb L P) (a b : Int) :
    Calls Try.prog 33 #[.pointer (some ⟨lb, 0, none⟩), .agg #[I 11, I a, I b]] w fun e w' => e = .returned (.bool true) ∧ Below w.heap.size w w' := by
  have hlen : 1 ≤ L.past.length := by have := h.rel.rel.lenle; omega
  have hc := fun W (hb : Below w.heap.size w W) => agrees_c (h.below hb).lawRep (h.below hb).ref h.rel.rel.ok hlen (h.rel.rel.agree h.rel.ck.si (h.below hb).prog)
  replace hc : Hid _ := hc
  clear h
  go_enter Try.func33, Try.ntmps33
  go_wp2_with fail
  refine (hc.out _ ((Below.refl _ _).alloc (Nat.le_refl _) _)).mono ?_
  rintro e w1 ⟨rfl, hb1⟩
  go_wp2
  go_ret
  exact ⟨rfl, ((Below.refl _ _).alloc (Nat.le_refl _) _).trans (hb1.mono (by simp))⟩

set_option maxHeartbeats 8000000 in
theorem cstep_spawn {w : World} {B : Nat} {c : Conf} {lb : Nat} {L : Lay} {P : PLay} (h : CSt w B c lb L P) (k a b : Int) (hk : k = 1 ∨ k = 2 ∨ k = 3 ∨ k = 4 ∨ k = 5 ∨ k = 6) :
    Calls Try.prog 33 #[.pointer (some ⟨lb, 0, none⟩), .agg #[I k, I a, I b]] w fun e w' => e = .returned (.bool true) ∧ (∃ L' P', CSt w' B c lb L' P') ∧ Below B w w' := by
  have hw := fun W => wanted_c k a b hk W
  have b7 : (k == 7) = false := by simp; omega
  have b8 : (k == 8) = false := by simp; omega
  have b9 : (k == 9) = false := by simp; omega
  have b10 : (k == 10) = false := by simp; omega
  have b11 : (k == 11) = false := by simp; omega
  have hs := cspawn_both h (wantOp k a b)
  have f0 : w.cell? ⟨lb, 0, none⟩ = some (.pointer (some ⟨P.tb, 0, none⟩)) := h.lawRep.c0
  have f1 : w.cell? ⟨lb, 1, none⟩ = some (.pointer (some ⟨L.tb, 0, none⟩)) := h.lawRep.c1
  have l0 := cell_lt f0
  have hB := h.hB
  unfold opV at hw hs
  replace hw : Hid _ := hw
  generalize hop : wantOp k a b = o at *
  clear hop hk
  obtain ⟨ok, ov, on⟩ := o
  simp only at hw hs
  rcases hs with ⟨e0, hp, hr⟩ | ⟨hlim, hp, hr⟩
  · replace hp : Hid _ := hp
    replace hr : Hid _ := hr
    go_enter Try.func33, Try.ntmps33
    go_wp2_with fail
    refine (hw.out _).mono ?_
    rintro e w1 ⟨rfl, hb1⟩
    have hb2 : Below w.heap.size w w1 := ((Below.refl _ _).alloc (Nat.le_refl _) _).trans (hb1.mono (by simp))
    have g0 := (hb2.cell (p := ⟨lb, 0, none⟩) l0).trans f0
    have l1 : lb < w1.heap.size := Nat.lt_of_lt_of_le l0 hb2.size
    clear hb1 hw
    go_wp2_with fail
    go_region_with (go_at_call 40; refine (hp.out _ (h.below ((hb2.alloc hb2.size _).drew)).prog).mono ?_; rintro e w2 ⟨rfl, hb3⟩)
    all_goals
      have hb4 : Below w.heap.size w w2 := ((hb2.alloc hb2.size _).drew).trans (hb3.mono (by show w.heap.size ≤ (w1.alloc _).heap.size; simp; exact Nat.le_succ_of_le hb2.size))
      have nx : w2.heap[w1.heap.size]? = some (.cells #[I ok, I ov, I on] 33 (0, 0)) := (hb3.block _ (by show w1.heap.size < (w1.alloc _).heap.size; simp)).trans (nb_alloc _ _ _)
      have g1 := (hb4.cell (p := ⟨lb, 1, none⟩) l0).trans f1
      obtain ⟨x1, _⟩ := nb_facts nx
      clear hb3
      go_wp2_with fail
      go_region_with (go_at_call 64; refine (hr.out _ (h.below hb4.drew).ref).mono ?_; rintro e w3 ⟨rfl, hb5⟩)
      all_goals
        have hb6 : Below w.heap.size w w3 := hb4.drew.trans (hb5.mono hb4.size)
        clear hb5
        go_wp2
        go_ret
        exact ⟨rfl, ⟨L, P, h.below hb6⟩, hb6.mono hB⟩
  · replace hp : Hid _ := hp
    replace hr : Hid _ := hr
    go_enter Try.func33, Try.ntmps33
    go_wp2_with fail
    refine (hw.out _).mono ?_
    rintro e w1 ⟨rfl, hb1⟩
    have hb2 : Below w.heap.size w w1 := ((Below.refl _ _).alloc (Nat.le_refl _) _).trans (hb1.mono (by simp))
    have g0 := (hb2.cell (p := ⟨lb, 0, none⟩) l0).trans f0
    have l1 : lb < w1.heap.size := Nat.lt_of_lt_of_le l0 hb2.size
    clear hb1 hw
    go_wp2_with fail
    go_region_with (go_at_call 40; refine (hp.out _ (h.below ((hb2.alloc hb2.size _).drew)).prog (h.below ((hb2.alloc hb2.size _).drew)).hB).mono ?_; rintro e w2 ⟨rfl, ⟨y, hpr⟩, hc2⟩)
    all_goals
      have hbx := (hb2.alloc hb2.size (.cells #[I ok, I ov, I on] 33)).drew
      have h2 := h.below hbx
      have nx : w2.heap[w1.heap.size]? = some (.cells #[I ok, I ov, I on] 33 (0, 0)) := hc2.at (nb_alloc _ _ _) (by decide)
      have hlw := hc2.at h2.law (by decide)
      have hrf := h2.ref.chg hc2 (by decide) (by decide) (by decide) (by decide) (by decide) (by decide)
      have hB2 : B ≤ w2.heap.size := Nat.le_trans h2.hB hc2.size
      have g1 : w2.cell? ⟨lb, 1, none⟩ = some (.pointer (some ⟨L.tb, 0, none⟩)) := by rw [block_cell hlw]; rfl
      have hbB := (hbx.mono hB).trans (hc2.below h2.hB)
      obtain ⟨x1, _⟩ := nb_facts nx
      replace hlw : Hid _ := hlw
      clear hc2 h2
      go_wp2_with fail
      go_region_with (go_at_call 64; refine (hr.out _ (hrf.below (Below.refl _ _).drew) hB2).mono ?_; rintro e w3 ⟨rfl, ⟨nb, z, hrr⟩, hc3⟩)
      all_goals
        have hc4 : ChgT B [110, 129] w2 w3 := ⟨hc3.os, hc3.tape, hc3.output, hc3.size, hc3.block⟩
        have hlw3 := hc4.at hlw.out (by decide)
        have hp3 := hpr.chg hc4 (by decide) (by decide) (by decide)
        have hbB3 := hbB.trans (hc4.below hB2)
        have hB3 : B ≤ w3.heap.size := Nat.le_trans hB2 hc4.size
        have hrel := h.rel.push ⟨ok, ov, on⟩ hlim.1 nb z y hlim.2.1 hlim.2.2
        replace hlw3 : Hid _ := hlw3
        clear hc3 hc4
        go_wp2
        go_ret
        exact ⟨rfl, ⟨{ L with pv := z, procs := L.procs ++ [(nb, newPr ⟨ok, ov, on⟩)] }, { P with pv := y, procs := P.procs ++ [newPP ⟨ok, ov, on⟩] }, ⟨hlw3.out, hrr, hp3, hrel, hB3⟩⟩, hbB3⟩

end Go.Proofs.Ytjnmpejcegmkhaa
