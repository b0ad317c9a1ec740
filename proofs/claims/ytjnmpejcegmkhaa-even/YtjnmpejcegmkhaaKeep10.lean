/- The contract of package prismkeep's run. No statement of the seat is proved here. -/
import Derived.Test.YtjnmpejcegmkhaaKeep2
namespace Go.Proofs.Ytjnmpejcegmkhaa
open Go.RowKit

set_option maxHeartbeats 4000000 in
theorem krun_c (hb : Nat) (p draw : Int) (n : Nat) (hn : n ≤ 100) (S : Nat → World → Prop) (ph : Int)
    (hstep : ∀ k, k < n → ∀ W, S k W → Calls Try.prog 43 #[.pointer (some ⟨hb, 0, none⟩), I p, I draw] W fun e w' => e = .returned (.bool true) ∧ S (k + 1) w')
    (hat : ∀ W, S n W → Calls Try.prog 44 #[.pointer (some ⟨hb, 0, none⟩), I p] W fun e w' => (∃ a b, e = .returned (.agg #[I ph, I a, I b])) ∧ S n w')
    (hal : ∀ W o, S n W → S n (W.alloc o)) (w : World) (h0 : S 0 w) :
    Calls Try.prog 19 #[.pointer (some ⟨hb, 0, none⟩), I p, I n, I draw] w fun e w' => e = .returned (.tuple #[I ph, .bool true]) ∧ S n w' := by
  have HS : Hid _ := hstep
  have HA : Hid _ := hat
  have HL : Hid _ := hal
  have H0 : Hid _ := h0
  clear hstep hat hal h0
  go_enter Try.func19, Try.ntmps19
  go_wp2_with fail
  go_loopw [10, 11] (fun i _ wr => ∃ k : Nat, k ≤ n ∧ i = .int .i64 k ∧ S k wr) (fun i _ _ => n - (intOf i).toNat)
  case atStart => exact ⟨0, Nat.zero_le _, rfl, H0.out⟩
  case round =>
    obtain ⟨k, hk, rfl, hs⟩ := hrel
    by_cases hlt : k < n
    · have hc := HS.out k hlt _ hs
      replace hc : Hid _ := hc
      go_wp2_with fail
      refine Calls.mono hc.out ?_
      rintro e w1 ⟨rfl, hs1⟩
      clear hc
      go_wp2_with fail
      go_roundw
      case rel => exact ⟨k + 1, by omega, by go_num, hs1⟩
      case measure => simp [intOf]; omega
    · have e : k = n := by omega
      subst e
      have hc := HA.out _ hs
      replace hc : Hid _ := hc
      have hd : decide ((k : Int) < (k : Int)) = false := by simp
      go_wp2_with fail
      refine Calls.mono hc.out ?_
      rintro e w1 ⟨⟨a, b, rfl⟩, hs1⟩
      have hs2 := HL.out _ (.cells #[I ph, I a, I b] 84) hs1
      replace hs2 : Hid _ := hs2
      clear hc
      go_wp2
      go_ret2
      exact ⟨rfl, hs2.out⟩

end Go.Proofs.Ytjnmpejcegmkhaa
