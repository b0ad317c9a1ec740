/- Contracts of package prismkeep's small functions: within, good, pick, changer, among. No statement of the seat is proved here. -/
import Derived.Test.YtjnmpejcegmkhaaRefA
namespace Go.Proofs.Ytjnmpejcegmkhaa
open Go.RowKit

theorem within_c (v lo hi : Int) (w : World) : Calls Try.prog 67 #[I v, I lo, I hi] w fun e w' => e = .returned (.bool (decide (lo ≤ v ∧ v ≤ hi))) ∧ w' = w := by
  by_cases h1 : lo ≤ v
  · by_cases h2 : v ≤ hi
    · have HE : Hid (decide (lo ≤ v ∧ v ≤ hi) = true) := by show _ = _; simp [h1, h2]
      rw [HE.out]
      go_enter Try.func67, Try.ntmps67
      go_wp2
      go_ret
      exact ⟨rfl, rfl⟩
    · have HE : Hid (decide (lo ≤ v ∧ v ≤ hi) = false) := by show _ = _; simp [h2]
      have hd : decide (v ≤ hi) = false := by simp; omega
      rw [HE.out]
      go_enter Try.func67, Try.ntmps67
      go_wp2
      go_ret
      exact ⟨rfl, rfl⟩
  · have HE : Hid (decide (lo ≤ v ∧ v ≤ hi) = false) := by show _ = _; simp [h1]
    have hd : decide (lo ≤ v) = false := by simp; omega
    rw [HE.out]
    go_enter Try.func67, Try.ntmps67
    go_wp2
    go_ret
    exact ⟨rfl, rfl⟩

set_option maxHeartbeats 4000000 in
theorem good_c (c : Conf) (w : World) : Calls Try.prog 37 #[confV c] w fun e w' => e = .returned (.bool (mayC c)) ∧ Below w.heap.size w w' := by
  have HW : Hid (∀ v lo hi W, Calls Try.prog 67 #[I v, I lo, I hi] W fun e w' => e = .returned (.bool (decide (lo ≤ v ∧ v ≤ hi))) ∧ w' = W) := fun v lo hi W => within_c v lo hi W
  have HM : Hid (∀ b : Bool, (b = true ↔ ((c.kind = 0 ∨ c.kind = 1) ∧ 0 ≤ c.depth ∧ c.depth ≤ 4 ∧ 0 ≤ c.start ∧ c.start ≤ c.depth ∧ 1 ≤ c.slots ∧ c.slots ≤ 4 ∧ 1 ≤ c.width ∧ c.width ≤ 4 ∧ 0 ≤ c.spin ∧ c.spin ≤ 8 ∧ 0 ≤ c.drain ∧ c.drain ≤ 16 ∧ 1 ≤ c.procs ∧ c.procs ≤ 16)) → b = mayC c) := fun b h => mayC_mk h
  unfold confV
  generalize mayC c = M at *
  obtain ⟨kind, depth, start, slots, width, spin, drain, procs⟩ := c
  simp only at *
  go_enter Try.func37, Try.ntmps37
  go_wp2_with fail
  refine Calls.mono (HW.out _ _ _ _) ?_
  rintro e w0 ⟨rfl, rfl⟩
  by_cases h0 : 0 ≤ kind ∧ kind ≤ 1
  · rw [decide_eq_true h0]
    go_wp2_with fail
    refine Calls.mono (HW.out _ _ _ _) ?_
    rintro e w1 ⟨rfl, rfl⟩
    by_cases h1 : 0 ≤ depth ∧ depth ≤ 4
    · rw [decide_eq_true h1]
      go_wp2_with fail
      refine Calls.mono (HW.out _ _ _ _) ?_
      rintro e w2 ⟨rfl, rfl⟩
      by_cases h2 : 0 ≤ start ∧ start ≤ depth
      · rw [decide_eq_true h2]
        go_wp2_with fail
        refine Calls.mono (HW.out _ _ _ _) ?_
        rintro e w3 ⟨rfl, rfl⟩
        by_cases h3 : 1 ≤ slots ∧ slots ≤ 4
        · rw [decide_eq_true h3]
          go_wp2_with fail
          refine Calls.mono (HW.out _ _ _ _) ?_
          rintro e w4 ⟨rfl, rfl⟩
          by_cases h4 : 1 ≤ width ∧ width ≤ 4
          · rw [decide_eq_true h4]
            go_wp2_with fail
            refine Calls.mono (HW.out _ _ _ _) ?_
            rintro e w5 ⟨rfl, rfl⟩
            by_cases h5 : 0 ≤ spin ∧ spin ≤ 8
            · rw [decide_eq_true h5]
              go_wp2_with fail
              refine Calls.mono (HW.out _ _ _ _) ?_
              rintro e w6 ⟨rfl, rfl⟩
              by_cases h6 : 0 ≤ drain ∧ drain ≤ 16
              · rw [decide_eq_true h6]
                go_wp2_with fail
                refine Calls.mono (HW.out _ _ _ _) ?_
                rintro e w7 ⟨rfl, rfl⟩
                by_cases h7 : 1 ≤ procs ∧ procs ≤ 16
                · rw [decide_eq_true h7]
                  go_wp2
                  go_ret
                  exact ⟨ret_bool (HM.out _ (by simp; omega)), (Below.refl _ _).alloc (Nat.le_refl _) _⟩
                · rw [decide_eq_false h7]
                  go_wp2
                  go_ret
                  exact ⟨ret_bool (HM.out _ (by simp; omega)), (Below.refl _ _).alloc (Nat.le_refl _) _⟩
              · rw [decide_eq_false h6]
                go_wp2
                go_ret
                exact ⟨ret_bool (HM.out _ (by simp; omega)), (Below.refl _ _).alloc (Nat.le_refl _) _⟩
            · rw [decide_eq_false h5]
              go_wp2
              go_ret
              exact ⟨ret_bool (HM.out _ (by simp; omega)), (Below.refl _ _).alloc (Nat.le_refl _) _⟩
          · rw [decide_eq_false h4]
            go_wp2
            go_ret
            exact ⟨ret_bool (HM.out _ (by simp; omega)), (Below.refl _ _).alloc (Nat.le_refl _) _⟩
        · rw [decide_eq_false h3]
          go_wp2
          go_ret
          exact ⟨ret_bool (HM.out _ (by simp; omega)), (Below.refl _ _).alloc (Nat.le_refl _) _⟩
      · rw [decide_eq_false h2]
        go_wp2
        go_ret
        exact ⟨ret_bool (HM.out _ (by simp; omega)), (Below.refl _ _).alloc (Nat.le_refl _) _⟩
    · rw [decide_eq_false h1]
      go_wp2
      go_ret
      exact ⟨ret_bool (HM.out _ (by simp; omega)), (Below.refl _ _).alloc (Nat.le_refl _) _⟩
  · rw [decide_eq_false h0]
    go_wp2
    go_ret
    exact ⟨ret_bool (HM.out _ (by simp; omega)), (Below.refl _ _).alloc (Nat.le_refl _) _⟩

theorem changer_c (k : Int) (w : World) : Calls Try.prog 42 #[I k] w fun e w' => e = .returned (.bool (decide (k = 3) || decide (k = 4))) ∧ w' = w := by
  by_cases h3 : k = 3
  · have b1 : (k == 3) = true := by simp [h3]
    have HE : Hid ((decide (k = 3) || decide (k = 4)) = true) := by show _ = _; simp [h3]
    rw [HE.out]
    clear h3
    go_enter Try.func42, Try.ntmps42
    go_wp2
    go_ret
    exact ⟨rfl, rfl⟩
  · have b1 : (k == 3) = false := by simp [h3]
    have HE : Hid ((decide (k = 3) || decide (k = 4)) = (k == 4)) := by show _ = _; simp [h3]; rfl
    rw [HE.out]
    clear h3
    go_enter Try.func42, Try.ntmps42
    go_wp2
    go_ret
    exact ⟨rfl, rfl⟩

theorem pick_c (x : Int) (hx0 : -9223372036854775808 ≤ x) (n : Nat) (hn : 1 ≤ n) (hn9 : n ≤ 2000000000000) (w : World) : Calls Try.prog 16 #[I x, I n] w fun e w' => (∃ r : Nat, r < n ∧ e = .returned (I r)) ∧ w' = w := by
  have hne : ((n : Int) == 0) = false := by simp; omega
  by_cases hx : x < 0
  · have hv : 0 ≤ -(x + 1) := by omega
    have HR : Hid (∃ r : Nat, r < n ∧ -((x + 1).tmod n) = (r : Int)) := by
      refine ⟨((-(x + 1)) % n).toNat, ?_, ?_⟩
      · have := Int.emod_lt_of_pos (-(x + 1)) (show 0 < (n : Int) by omega)
        have := Int.emod_nonneg (-(x + 1)) (show (n : Int) ≠ 0 by omega)
        omega
      · rw [← Int.neg_tmod, Int.tmod_eq_emod_of_nonneg hv]
        have := Int.emod_nonneg (-(x + 1)) (show (n : Int) ≠ 0 by omega)
        omega
    go_enter Try.func16, Try.ntmps16
    go_wp2
    go_ret
    obtain ⟨r, h1, h2⟩ := HR.out
    exact ⟨⟨r, h1, ret_i h2⟩, rfl⟩
  · have hd : decide (x < 0) = false := by simp; omega
    have HR : Hid (∃ r : Nat, r < n ∧ x % n = (r : Int)) := by
      have := Int.emod_lt_of_pos x (show 0 < (n : Int) by omega)
      have := Int.emod_nonneg x (show (n : Int) ≠ 0 by omega)
      exact ⟨(x % n).toNat, by omega, by omega⟩
    go_enter Try.func16, Try.ntmps16
    go_wp2
    go_ret
    obtain ⟨r, h1, h2⟩ := HR.out
    exact ⟨⟨r, h1, ret_i h2⟩, rfl⟩

end Go.Proofs.Ytjnmpejcegmkhaa
