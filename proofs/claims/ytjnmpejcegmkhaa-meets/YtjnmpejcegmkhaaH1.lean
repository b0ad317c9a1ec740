/- The contract of package prismkeep's refusal, of any operation. No statement of the seat is proved here. -/
import Derived.Test.YtjnmpejcegmkhaaKeep3
namespace Go.Proofs.Ytjnmpejcegmkhaa
open Go.RowKit

def okOpDec (c : Conf) (o : Op3) : Decidable (okOp c o) := by unfold okOp; exact inferInstance
/-- What Spawn must answer. -/
def refusalK (P : PLay) (o : Op3) : Int := letI := okOpDec P.c o; if ¬ okOp P.c o then 2 else if 256 ≤ P.procs.length then 3 else if P.c.procs ≤ (pliveL P.procs : Int) then 4 else 0

set_option maxHeartbeats 4000000 in
set_option maxRecDepth 100000 in
theorem krefusal_chg {w : World} {B hb : Nat} {P : PLay} {ops : List Op3} {went : List Bool} (h : KRep w B hb P ops went) (kd vl nd : Int) (hk : kd = 3 ∨ kd = 4) (hd0 : 0 ≤ P.c.depth) (hd4 : P.c.depth ≤ 4) :
    Calls Try.prog 39 #[.pointer (some ⟨hb, 0, none⟩), .agg #[I kd, I vl, I nd]] w fun e w' => e = .returned (I (refusalK P ⟨kd, vl, nd⟩)) ∧ Below w.heap.size w w' := by
  have hlv := fun W (hw : Below w.heap.size w W) => klive_c (h.below hw)
  obtain ⟨c1, c2, c8, ao, cap, c9, q1, q2, q3⟩ := h.conf
  have hlen := h.len
  rw [hlen] at c9 q1 q2
  have HF : Hid (∀ W, Below w.heap.size w W → W.cell? ⟨hb, 8, none⟩ = some (I P.c.procs) ∧ W.cell? ⟨hb, 9, none⟩ = some (.slice ao P.procs.length cap)) := fun W hw => ⟨(hw.cell (p := ⟨hb, 8, none⟩) (cell_lt c8)).trans c8, (hw.cell (p := ⟨hb, 9, none⟩) (cell_lt c9)).trans c9⟩
  have l0 := cell_lt c1
  unfold maxLen at q2 q3
  have HRF0 : refusalK P ⟨kd, vl, nd⟩ = (letI := okOpDec P.c ⟨kd, vl, nd⟩; if ¬ okOp P.c ⟨kd, vl, nd⟩ then 2 else if 256 ≤ P.procs.length then 3 else if P.c.procs ≤ (pliveL P.procs : Int) then 4 else 0) := rfl
  generalize refusalK P ⟨kd, vl, nd⟩ = rk at *
  have HOK : Hid (decide (1 ≤ nd ∧ nd ≤ ((2 ^ P.c.depth.toNat : Nat) : Int) - 1) = (letI := okOpDec P.c ⟨kd, vl, nd⟩; decide (okOp P.c ⟨kd, vl, nd⟩))) := by
    show _ = _
    refine decide_eq_decide.2 ?_
    unfold okOp
    simp only
    omega
  generalize hokb : (letI := okOpDec P.c ⟨kd, vl, nd⟩; decide (okOp P.c ⟨kd, vl, nd⟩)) = okb at *
  obtain ⟨d, hd⟩ := Int.eq_ofNat_of_zero_le hd0
  generalize pliveL P.procs = lv at *
  generalize P.procs.length = np at *
  generalize P.c.procs = cp at *
  have HRF : Hid ((okb = false → rk = 2) ∧ (okb = true → 256 ≤ np → rk = 3) ∧ (okb = true → ¬ 256 ≤ np → cp ≤ (lv : Int) → rk = 4) ∧ (okb = true → ¬ 256 ≤ np → ¬ cp ≤ (lv : Int) → rk = 0)) := by
    refine ⟨fun a => ?_, fun a b => ?_, fun a b d => ?_, fun a b d => ?_⟩
    · rw [HRF0, if_pos (@of_decide_eq_false _ (okOpDec _ _) (hokb.trans a))]
    · rw [HRF0, if_neg (fun k => k (@of_decide_eq_true _ (okOpDec _ _) (hokb.trans a))), if_pos b]
    · rw [HRF0, if_neg (fun k => k (@of_decide_eq_true _ (okOpDec _ _) (hokb.trans a))), if_neg b, if_pos d]
    · rw [HRF0, if_neg (fun k => k (@of_decide_eq_true _ (okOpDec _ _) (hokb.trans a))), if_neg b, if_neg d]
  clear HRF0
  clear hokb
  have HX : Hid (decide (1 ≤ nd ∧ nd ≤ wrap64 (wrap64 (2 ^ d) - 1)) = okb) := by
    show _ = _
    have h1 := sh_one d (by omega)
    have h2 : (2 : Nat) ^ d ≤ 2 ^ 4 := Nat.pow_le_pow_right (by omega) (by omega)
    have h3 := HOK.out
    rw [hd, Int.toNat_natCast] at h3
    rw [h1]
    generalize (2 : Nat) ^ d = z at *
    rw [IntWalk.wrap64_in _ ⟨by omega, by omega⟩, ← h3]
  clear HOK
  generalize P.c.kind = ck at *
  generalize P.c.depth = cd at *
  replace hlv : Hid _ := hlv
  clear h hlen
  subst hd
  have hw := fun (x : Int) W => within_c nd 1 x W
  replace hw : Hid _ := hw
  rcases hk with rfl | rfl
  · go_enter Try.func39, Try.ntmps39
    go_wp2_with fail
    go_quiet ((go_at_call 67; exact Calls.quiet_of_same (hw.out _ _)))
    go_wp2_with fail
    rw [HX.out]
    have hb0 := fun nq => Below.drewN' ((Below.refl w.heap.size w).alloc (Nat.le_refl _) (.cells #[I 3, I vl, I nd] 33)) nq
    replace hb0 := hb0 nq
    refine Calls.mono (hlv.out _ hb0) ?_
    rintro e w1 ⟨rfl, hb1⟩
    have hb2 : Below w.heap.size w w1 := hb0.trans (hb1.mono hb0.size)
    obtain ⟨g8, g9⟩ := HF.out w1 hb2
    clear hb1 c8 c9 HF hlv
    cases okb
    · have e1 : rk = 2 := HRF.out.1 rfl
      subst e1
      clear HRF
      go_wp2
      go_ret
      exact ⟨rfl, hb2⟩
    · by_cases h3 : 256 ≤ np
      · have e1 : rk = 3 := HRF.out.2.1 rfl (by omega)
        subst e1
        have hi3 : decide ((256 : Int) ≤ (np : Int)) = true := by simp; omega
        clear HRF
        go_wp2
        go_ret
        exact ⟨rfl, hb2⟩
      · have hd3 : decide ((256 : Int) ≤ (np : Int)) = false := by simp; omega
        by_cases h4 : cp ≤ (lv : Int)
        · have e1 : rk = 4 := HRF.out.2.2.1 rfl (by omega) (by omega)
          subst e1
          clear HRF h3
          go_wp2
          go_ret
          exact ⟨rfl, hb2⟩
        · have e1 : rk = 0 := HRF.out.2.2.2 rfl (by omega) (by omega)
          subst e1
          have hd4 : decide (cp ≤ (lv : Int)) = false := by simp; omega
          clear HRF h3
          go_wp2
          go_ret
          exact ⟨rfl, hb2⟩
  · go_enter Try.func39, Try.ntmps39
    go_wp2_with fail
    go_quiet ((go_at_call 67; exact Calls.quiet_of_same (hw.out _ _)))
    go_wp2_with fail
    rw [HX.out]
    have hb0 := fun nq => Below.drewN' ((Below.refl w.heap.size w).alloc (Nat.le_refl _) (.cells #[I 4, I vl, I nd] 33)) nq
    replace hb0 := hb0 nq
    refine Calls.mono (hlv.out _ hb0) ?_
    rintro e w1 ⟨rfl, hb1⟩
    have hb2 : Below w.heap.size w w1 := hb0.trans (hb1.mono hb0.size)
    obtain ⟨g8, g9⟩ := HF.out w1 hb2
    clear hb1 c8 c9 HF hlv
    cases okb
    · have e1 : rk = 2 := HRF.out.1 rfl
      subst e1
      clear HRF
      go_wp2
      go_ret
      exact ⟨rfl, hb2⟩
    · by_cases h3 : 256 ≤ np
      · have e1 : rk = 3 := HRF.out.2.1 rfl (by omega)
        subst e1
        have hi3 : decide ((256 : Int) ≤ (np : Int)) = true := by simp; omega
        clear HRF
        go_wp2
        go_ret
        exact ⟨rfl, hb2⟩
      · have hd3 : decide ((256 : Int) ≤ (np : Int)) = false := by simp; omega
        by_cases h4 : cp ≤ (lv : Int)
        · have e1 : rk = 4 := HRF.out.2.2.1 rfl (by omega) (by omega)
          subst e1
          clear HRF h3
          go_wp2
          go_ret
          exact ⟨rfl, hb2⟩
        · have e1 : rk = 0 := HRF.out.2.2.2 rfl (by omega) (by omega)
          subst e1
          have hd4 : decide (cp ≤ (lv : Int)) = false := by simp; omega
          clear HRF h3
          go_wp2
          go_ret
          exact ⟨rfl, hb2⟩

set_option maxHeartbeats 4000000 in
set_option maxRecDepth 100000 in
theorem krefusal_odd {w : World} {B hb : Nat} {P : PLay} {ops : List Op3} {went : List Bool} (h : KRep w B hb P ops went) (kd vl nd : Int) (hk : kd < 0 ∨ 4 < kd) :
    Calls Try.prog 39 #[.pointer (some ⟨hb, 0, none⟩), .agg #[I kd, I vl, I nd]] w fun e w' => e = .returned (I (refusalK P ⟨kd, vl, nd⟩)) ∧ Below w.heap.size w w' := by
  have hlv := fun W (hw : Below w.heap.size w W) => klive_c (h.below hw)
  obtain ⟨c1, c2, c8, ao, cap, c9, q1, q2, q3⟩ := h.conf
  have hlen := h.len
  rw [hlen] at c9 q1 q2
  have l0 := cell_lt c1
  unfold maxLen at q2 q3
  have HRF : refusalK P ⟨kd, vl, nd⟩ = 2 := by
    unfold refusalK okOp
    rw [if_pos]
    simp only
    omega
  rw [HRF]
  have b0 : (kd == 0) = false := by simp; omega
  have b1 : (kd == 1) = false := by simp; omega
  have b2 : (kd == 2) = false := by simp; omega
  have b3 : (kd == 3) = false := by simp; omega
  have b4 : (kd == 4) = false := by simp; omega
  replace hlv : Hid _ := hlv
  clear h hlen HRF hk
  go_enter Try.func39, Try.ntmps39
  go_wp2_with fail
  refine Calls.mono (hlv.out _ ((Below.refl _ _).alloc (Nat.le_refl _) _)) ?_
  rintro e w1 ⟨rfl, hb1⟩
  have hb2 : Below w.heap.size w w1 := ((Below.refl _ _).alloc (Nat.le_refl _) _).trans (hb1.mono (by simp))
  clear hb1 c8 c9
  go_wp2
  go_ret
  exact ⟨rfl, hb2⟩

theorem krefusal_c {w : World} {B hb : Nat} {P : PLay} {ops : List Op3} {went : List Bool} (h : KRep w B hb P ops went) (kd vl nd : Int) (hd0 : 0 ≤ P.c.depth) (hd4 : P.c.depth ≤ 4) :
    Calls Try.prog 39 #[.pointer (some ⟨hb, 0, none⟩), .agg #[I kd, I vl, I nd]] w fun e w' => e = .returned (I (refusalK P ⟨kd, vl, nd⟩)) ∧ Below w.heap.size w w' := by
  by_cases h3 : kd = 3 ∨ kd = 4
  · exact krefusal_chg h kd vl nd h3 hd0 hd4
  · by_cases h1 : kd = 0 ∨ kd = 1 ∨ kd = 2
    · have e : refusalK P ⟨kd, vl, nd⟩ = refusalW P kd := by
        unfold refusalK refusalW
        have : (¬ okOp P.c ⟨kd, vl, nd⟩) ↔ okW P.c.kind kd = false := by
          unfold okOp okW
          simp only [decide_eq_false_iff_not]
          omega
        by_cases x : okOp P.c ⟨kd, vl, nd⟩
        · rw [if_neg (fun k => k x), if_neg (fun k => this.2 k x)]
        · rw [if_pos x, if_pos (this.1 x)]
      rw [e]
      exact krefusal_walk h kd vl nd h1
    · exact krefusal_odd h kd vl nd (by omega)

end Go.Proofs.Ytjnmpejcegmkhaa
