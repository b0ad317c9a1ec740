/- A Rest of a script: the statements' own step answers true, and both trees go on alike. No statement of the seat is proved here. -/
import Derived.Test.YtjnmpejcegmkhaaDRestA
import Derived.Deep.RegionWith
import Derived.Deep.DeepCutAuto
namespace Go.Proofs.Ytjnmpejcegmkhaa
open Go.RowKit

set_option maxHeartbeats 8000000 in
set_option maxRecDepth 100000 in
theorem cstep_rest {w : World} {B : Nat} {c : Conf} {lb : Nat} {L : Lay} {P : PLay} (h : CSt w B c lb L P) (a b : Int) :
    Calls Try.prog 33 #[.pointer (some ⟨lb, 0, none⟩), .agg #[I 9, I a, I b]] w fun e w' => e = .returned (.bool true) ∧ (∃ L' P', CSt w' B c lb L' P') ∧ Below B w w' := by
  have f0 : w.cell? ⟨lb, 0, none⟩ = some (.pointer (some ⟨P.tb, 0, none⟩)) := h.lawRep.c0
  have f1 : w.cell? ⟨lb, 1, none⟩ = some (.pointer (some ⟨L.tb, 0, none⟩)) := h.lawRep.c1
  have l0 := cell_lt f0
  have hB := h.hB
  have hba : Below w.heap.size w (w.alloc (.cells #[I 9, I a, I b] 64)) := (Below.refl _ _).alloc (Nat.le_refl _) _
  have noa : (w.alloc (.cells #[I 9, I a, I b] 64)).heap[w.heap.size]? = some (.cells #[I 9, I a, I b] 64 (0, 0)) := nb_alloc _ _ _
  by_cases hs : a < 0 ∨ 100 < a
  · have hp := fun (W : World) => prest_err (w := W) P.tb a b hs
    have hr := fun (W : World) => rrest_err (w := W) L.tb a b hs
    replace hp : Hid _ := hp
    replace hr : Hid _ := hr
    clear hs
    go_enter Try.func33, Try.ntmps33
    go_wp2_with fail
    go_cut [9, 10] (fun s5 s6 wx => s5 = I 0 ∧ s6 = I 6 ∧ Below (w.alloc (.cells #[I 9, I a, I b] 64)).heap.size (w.alloc (.cells #[I 9, I a, I b] 64)) wx)
    case first =>
      go_region_with (go_at_call 59; refine (hp.out _).mono ?_; rintro e w1 ⟨rfl, rfl⟩)
      all_goals
        go_wp2_with fail
        go_meet
        exact ⟨rfl, rfl, (Below.refl _ _).drew⟩
    case rest =>
      obtain ⟨rfl, rfl, hb1⟩ := hcut
      have hb2 : Below w.heap.size w wc := hba.trans (hb1.mono (by simp))
      have nx : wc.heap[w.heap.size]? = some (.cells #[I 9, I a, I b] 64 (0, 0)) := (hb1.block _ (by simp)).trans noa
      have g1 := (hb2.cell (p := ⟨lb, 1, none⟩) l0).trans f1
      obtain ⟨x1, _⟩ := nb_facts nx
      clear hb1
      go_wp2_with fail
      go_region_with (go_at_call 60; refine (hr.out _).mono ?_; rintro e w2 ⟨rfl, rfl⟩)
      all_goals
        go_wp2
        go_ret
        exact ⟨rfl, ⟨L, P, h.below hb2.drew⟩, hb2.drew.mono hB⟩
  · obtain ⟨r, hra⟩ := Int.eq_ofNat_of_zero_le (by omega : 0 ≤ a)
    subst hra
    have hp := fun (W : World) (hW : PRep W B P) (hBW : B ≤ W.heap.size) => prest_ok h.rel hW hBW r (by omega) b
    have hr := fun (W : World) (hW : RefRep W B L) (hBW : B ≤ W.heap.size) => rrest_ok h.rel hW hBW r (by omega) b
    replace hp : Hid _ := hp
    replace hr : Hid _ := hr
    generalize liveL (lrest L (b % 12) r).procs = lv at *
    generalize lrest L (b % 12) r = D at *
    clear hs
    go_enter Try.func33, Try.ntmps33
    go_wp2_with fail
    go_cut [9, 10] (fun s5 s6 wx => s5 = I lv ∧ s6 = I 0 ∧ (∃ P', P'.tb = P.tb ∧ CRel c D P' ∧ PRep wx B P') ∧ ChgT B [78, 119, 135] (w.alloc (.cells #[I 9, I r, I b] 64)) wx)
    case first =>
      go_region_with (go_at_call 59; refine (hp.out _ (h.below hba.drew).prog (h.below hba.drew).hB).mono ?_; rintro e w1 ⟨rfl, hpr, hc1⟩)
      all_goals
        go_wp2_with fail
        go_meet
        exact ⟨rfl, rfl, hpr, ⟨hc1.os, hc1.tape, hc1.output, hc1.size, hc1.block⟩⟩
    case rest =>
      obtain ⟨rfl, rfl, ⟨P2, htP, hcr, hpr⟩, hc1⟩ := hcut
      have h1 := h.below hba
      have nx : wc.heap[w.heap.size]? = some (.cells #[I 9, I r, I b] 64 (0, 0)) := hc1.at noa (by decide)
      have hlw := hc1.at h1.law (by decide)
      have hrf := h1.ref.chg hc1 (by decide) (by decide) (by decide) (by decide) (by decide) (by decide)
      have hB1 : B ≤ wc.heap.size := Nat.le_trans h1.hB hc1.size
      have g1 : wc.cell? ⟨lb, 1, none⟩ = some (.pointer (some ⟨L.tb, 0, none⟩)) := by rw [block_cell hlw]; rfl
      have hbB := (hba.mono hB).trans (hc1.below h1.hB)
      obtain ⟨x1, _⟩ := nb_facts nx
      replace hlw : Hid _ := hlw
      replace htP : Hid _ := htP
      replace hcr : Hid _ := hcr
      clear hc1 h1
      go_wp2_with fail
      go_region_with (go_at_call 60; refine (hr.out _ (hrf.below (Below.refl _ _).drew) hB1).mono ?_; rintro e w2 ⟨rfl, ⟨L2, htL, hsm, hrr⟩, hc2⟩)
      all_goals
        have hc3 : ChgT B [136, 125, 128] wc w2 := ⟨hc2.os, hc2.tape, hc2.output, hc2.size, hc2.block⟩
        have hlw2 := hc3.at hlw.out (by decide)
        have hp2 := hpr.chg hc3 (by decide) (by decide) (by decide)
        have hbB2 := hbB.trans (hc3.below hB1)
        have hB2 : B ≤ w2.heap.size := Nat.le_trans hB1 hc3.size
        have hcl : lawCells P L = lawCells P2 L2 := by unfold lawCells; rw [htP.out, htL]
        rw [hcl] at hlw2
        replace hlw2 : Hid _ := hlw2
        have hrel2 := hcr.out.same hsm
        replace htL : Hid _ := htL
        clear hc2 hc3
        go_wp2
        go_ret
        exact ⟨rfl, ⟨L2, P2, ⟨hlw2.out, hrr, hp2, hrel2, hB2⟩⟩, hbB2⟩

end Go.Proofs.Ytjnmpejcegmkhaa
