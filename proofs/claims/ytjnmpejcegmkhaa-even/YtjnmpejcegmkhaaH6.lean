/- Contracts of package prismkeep's deep, order and shaped. No statement of the seat is proved here. -/
import Derived.Test.YtjnmpejcegmkhaaKeep11
import Derived.Test.YtjnmpejcegmkhaaRefB
import Derived.Deep.DeepCutAuto
namespace Go.Proofs.Ytjnmpejcegmkhaa
open Go.RowKit

theorem deep_more : ∀ v : Fin 64, ∀ k : Fin 7, k.1 ≤ Nat.log2 v.1 → 1 < v.1 / 2 ^ k.1 → k.1 + 1 ≤ Nat.log2 v.1 := by decide +kernel
theorem deep_end : ∀ v : Fin 64, ∀ k : Fin 7, 1 ≤ v.1 → k.1 ≤ Nat.log2 v.1 → ¬ 1 < v.1 / 2 ^ k.1 → k.1 = Nat.log2 v.1 := by decide +kernel
theorem log2_64 : ∀ v : Fin 64, Nat.log2 v.1 ≤ 5 := by decide +kernel
def ordR (v : Nat) : Nat → Nat
  | 0 => 0
  | k + 1 => 2 * ordR v k + v / 2 ^ k % 2
theorem ord_end : ∀ v : Fin 64, 1 ≤ v.1 → ordR v.1 (Nat.log2 v.1) = rank v.1 := by decide +kernel
theorem ord_le : ∀ v : Fin 64, ∀ k : Fin 7, ordR v.1 k.1 ≤ 1000 := by decide +kernel
theorem half_more (v k : Nat) : v / 2 ^ (k + 1) = v / 2 ^ k / 2 := by rw [Nat.pow_succ, Nat.div_div_eq_div_mul]

set_option maxHeartbeats 2000000 in
theorem deep_c (v : Nat) (h1 : 1 ≤ v) (h64 : v < 64) (w : World) : Calls Try.prog 46 #[I v] w fun e w' => e = .returned (I (Nat.log2 v)) ∧ w' = w := by
  have HM : Hid (∀ k, k ≤ 6 → k ≤ Nat.log2 v → 1 < v / 2 ^ k → k + 1 ≤ Nat.log2 v) := fun k hk a b => deep_more ⟨v, h64⟩ ⟨k, by omega⟩ a b
  have HE : Hid (∀ k, k ≤ 6 → k ≤ Nat.log2 v → ¬ 1 < v / 2 ^ k → k = Nat.log2 v) := fun k hk a b => deep_end ⟨v, h64⟩ ⟨k, by omega⟩ h1 a b
  have h5 := log2_64 ⟨v, h64⟩
  simp only at h5
  generalize Nat.log2 v = lg at *
  have HH : Hid (∀ k, v / 2 ^ (k + 1) = v / 2 ^ k / 2) := fun k => half_more v k
  have HV : Hid (∀ k, v / 2 ^ k ≤ 63) := fun k => Nat.le_trans (Nat.div_le_self _ _) (by omega)
  go_enter Try.func46, Try.ntmps46
  go_wp2_with fail
  go_loop [0, 3] (fun x d => ∃ k : Nat, k ≤ lg ∧ x = .int .i64 ((v / 2 ^ k : Nat) : Int) ∧ d = .int .i64 k) (fun x d => lg - (intOf d).toNat)
  case atStart => exact ⟨0, Nat.zero_le _, by simp, rfl⟩
  case round =>
    obtain ⟨k, hk, rfl, rfl⟩ := hrel
    have hm := HM.out k (by omega) hk
    have he := HE.out k (by omega) hk
    have hh : Hid _ := HH.out k
    have hv := HV.out k
    generalize v / 2 ^ k = x at *
    by_cases hx : 1 < x
    · have hk1 := hm hx
      have bx : decide ((1 : Int) < (x : Int)) = true := by simp; omega
      clear hm he HM HE HH HV
      go_wp2
      go_round
      case rel => exact ⟨k + 1, hk1, by rw [hh.out]; go_num, by go_num⟩
      case measure => simp [intOf]; omega
    · have hk1 := he hx
      have bx : decide ((1 : Int) < (x : Int)) = false := by simp; omega
      clear hm he HM HE HH HV
      subst hk1
      go_wp2
      go_ret
      exact ⟨rfl, rfl⟩

set_option maxHeartbeats 2000000 in
theorem order_c (v : Nat) (h1 : 1 ≤ v) (h64 : v < 64) (w : World) : Calls Try.prog 47 #[I v] w fun e w' => e = .returned (I (rank v)) ∧ w' = w := by
  have HM : Hid (∀ k, k ≤ 6 → k ≤ Nat.log2 v → 1 < v / 2 ^ k → k + 1 ≤ Nat.log2 v) := fun k hk a b => deep_more ⟨v, h64⟩ ⟨k, by omega⟩ a b
  have HE : Hid (∀ k, k ≤ 6 → k ≤ Nat.log2 v → ¬ 1 < v / 2 ^ k → k = Nat.log2 v) := fun k hk a b => deep_end ⟨v, h64⟩ ⟨k, by omega⟩ h1 a b
  have HR : Hid (rank v = ordR v (Nat.log2 v)) := (ord_end ⟨v, h64⟩ h1).symm
  have HO : Hid (∀ k, k ≤ 6 → ordR v k ≤ 1000) := fun k hk => ord_le ⟨v, h64⟩ ⟨k, by omega⟩
  have h5 := log2_64 ⟨v, h64⟩
  simp only at h5
  generalize Nat.log2 v = lg at *
  have HH : Hid (∀ k, v / 2 ^ (k + 1) = v / 2 ^ k / 2 ∧ ordR v (k + 1) = 2 * ordR v k + v / 2 ^ k % 2) := fun k => ⟨half_more v k, rfl⟩
  have HV : Hid (∀ k, v / 2 ^ k ≤ 63) := fun k => Nat.le_trans (Nat.div_le_self _ _) (by omega)
  go_enter Try.func47, Try.ntmps47
  go_wp2_with fail
  go_loop [0, 3] (fun x d => ∃ k : Nat, k ≤ lg ∧ x = .int .i64 ((v / 2 ^ k : Nat) : Int) ∧ d = .int .i64 ((ordR v k : Nat) : Int)) (fun x d => (intOf x).toNat)
  case atStart => exact ⟨0, Nat.zero_le _, by simp, rfl⟩
  case round =>
    obtain ⟨k, hk, rfl, rfl⟩ := hrel
    have hm := HM.out k (by omega) hk
    have he := HE.out k (by omega) hk
    have hh : Hid _ := HH.out k
    have hv := HV.out k
    have ho := HO.out k (by omega)
    have HRK : Hid (k = lg → rank v = ordR v k) := by
      intro e
      rw [e]
      exact HR.out
    generalize v / 2 ^ k = x at *
    generalize ordR v k = r at *
    by_cases hx : 1 < x
    · have hk1 := hm hx
      have bx : decide ((1 : Int) < (x : Int)) = true := by simp; omega
      clear hm he HM HE HH HV HR HO HRK
      go_wp2
      go_round
      case rel => exact ⟨k + 1, hk1, by rw [hh.out.1]; go_num, by rw [hh.out.2]; go_num⟩
      case measure => simp [intOf]; omega
    · have hk1 := he hx
      have hrk := HRK.out hk1
      have bx : decide ((1 : Int) < (x : Int)) = false := by simp; omega
      clear hm he HM HE HH HV HR HO HRK
      replace hrk : Hid _ := hrk
      go_wp2
      go_ret
      exact ⟨by rw [hrk.out]; rfl, rfl⟩

end Go.Proofs.Ytjnmpejcegmkhaa
