/- The contract of package prismref's May. No statement of the seat is proved here. -/
import Derived.Test.YtjnmpejcegmkhaaRef6
namespace Go.Proofs.Ytjnmpejcegmkhaa
open Go.RowKit

def mayC (c : Conf) : Bool := decide ((c.kind = 0 ∨ c.kind = 1) ∧ 0 ≤ c.depth ∧ c.depth ≤ 4 ∧ 0 ≤ c.start ∧ c.start ≤ c.depth ∧ 1 ≤ c.slots ∧ c.slots ≤ 4 ∧ 1 ≤ c.width ∧ c.width ≤ 4 ∧ 0 ≤ c.spin ∧ c.spin ≤ 8 ∧ 0 ≤ c.drain ∧ c.drain ≤ 16 ∧ 1 ≤ c.procs ∧ c.procs ≤ 16)
def confV (c : Conf) : Value := .agg #[I c.kind, I c.depth, I c.start, I c.slots, I c.width, I c.spin, I c.drain, I c.procs]

theorem mayC_mk {c : Conf} {b : Bool} (h : b = true ↔ ((c.kind = 0 ∨ c.kind = 1) ∧ 0 ≤ c.depth ∧ c.depth ≤ 4 ∧ 0 ≤ c.start ∧ c.start ≤ c.depth ∧ 1 ≤ c.slots ∧ c.slots ≤ 4 ∧ 1 ≤ c.width ∧ c.width ≤ 4 ∧ 0 ≤ c.spin ∧ c.spin ≤ 8 ∧ 0 ≤ c.drain ∧ c.drain ≤ 16 ∧ 1 ≤ c.procs ∧ c.procs ≤ 16)) : b = mayC c := by
  rw [Bool.eq_iff_iff, h]; simp [mayC]

set_option maxHeartbeats 4000000 in
theorem may_c (c : Conf) (w : World) : Calls Try.prog 77 #[confV c] w fun e w' => e = .returned (.bool (mayC c)) ∧ Below w.heap.size w w' := by
  have HM : Hid (∀ b : Bool, (b = true ↔ ((c.kind = 0 ∨ c.kind = 1) ∧ 0 ≤ c.depth ∧ c.depth ≤ 4 ∧ 0 ≤ c.start ∧ c.start ≤ c.depth ∧ 1 ≤ c.slots ∧ c.slots ≤ 4 ∧ 1 ≤ c.width ∧ c.width ≤ 4 ∧ 0 ≤ c.spin ∧ c.spin ≤ 8 ∧ 0 ≤ c.drain ∧ c.drain ≤ 16 ∧ 1 ≤ c.procs ∧ c.procs ≤ 16)) → b = mayC c) := fun b h => mayC_mk h
  unfold confV
  generalize mayC c = M at *
  obtain ⟨kind, depth, start, slots, width, spin, drain, procs⟩ := c
  simp only at *
  by_cases hk : kind = 0 ∨ kind = 1
  · have hk2 : (kind != 0) = false ∨ ((kind != 0) = true ∧ (kind != 1) = false) := by
      rcases hk with rfl | rfl <;> simp
    have HK : Hid (kind = 0 ∨ kind = 1) := hk
    clear hk
    rcases hk2 with k0 | ⟨k0, k1⟩
    all_goals
      go_enter Try.func77, Try.ntmps77
      go_wp2
    all_goals
      go_ret
      exact ⟨ret_bool (HM.out _ (by have := HK.out; simp; omega)), (Below.refl _ _).alloc (Nat.le_refl _) _⟩
  · have k0 : (kind != 0) = true := by simp; omega
    have k1 : (kind != 1) = true := by simp; omega
    have HK : Hid (¬ (kind = 0 ∨ kind = 1)) := hk
    clear hk
    go_enter Try.func77, Try.ntmps77
    go_wp2
    go_ret
    exact ⟨ret_bool (HM.out _ (by have := HK.out; simp; omega)), (Below.refl _ _).alloc (Nat.le_refl _) _⟩

end Go.Proofs.Ytjnmpejcegmkhaa
