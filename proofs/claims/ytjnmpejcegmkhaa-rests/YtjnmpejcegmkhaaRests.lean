/- The walk of the statement Rests: for every configuration and script the call answers true, and what was there is as it was. -/
import Derived.Test.YtjnmpejcegmkhaaD13
import Derived.Test.YtjnmpejcegmkhaaD9
import Derived.Test.YtjnmpejcegmkhaaDPlays
namespace Go.Proofs.Ytjnmpejcegmkhaa
open Go.RowKit

/-- One step of a script of which Spawns, Rests, Proc and looks are played. -/
theorem rest_any (w : World) (B : Nat) (c : Conf) (lb : Nat) (L : Lay) (P : PLay) (h : CSt w B c lb L P) (k a b : Int) (hk : isIn [1, 2, 3, 4, 5, 6, 9, 7, 11] k = true) :
    Calls Try.prog 33 #[.pointer (some ⟨lb, 0, none⟩), .agg #[I k, I a, I b]] w fun e w' => e = .returned (.bool true) ∧ (∃ L' P', CSt w' B c lb L' P') ∧ Below B w w' := by
  have hk' : k = 1 ∨ k = 2 ∨ k = 3 ∨ k = 4 ∨ k = 5 ∨ k = 6 ∨ k = 9 ∨ k = 7 ∨ k = 11 := by simp [isIn] at hk; omega
  by_cases h7 : k = 7
  · subst h7
    exact (cstep_seven h a b).mono fun e w' ⟨he, hb⟩ => ⟨he, ⟨L, P, h.below hb⟩, hb.mono h.hB⟩
  · by_cases h11 : k = 11
    · subst h11
      exact (cstep_eleven h a b).mono fun e w' ⟨he, hb⟩ => ⟨he, ⟨L, P, h.below hb⟩, hb.mono h.hB⟩
    · by_cases h9 : k = 9
      · subst h9
        exact cstep_rest h a b
      · exact cstep_spawn h k a b (by omega)

set_option maxHeartbeats 4000000 in
theorem rests_walk (c : Conf) (w : World) (v : Value) (n : Nat) (l : Nat → Int × Int × Int) (hs : ScriptAt w v n l) : Calls Try.prog 7 #[confV c, v] w fun e w' => e = .returned (.bool true) ∧ Below w.heap.size w w' := by
  have h1 : ∀ W kb, Below w.heap.size w W → W.heap[kb]? = some (.cells #[I 1, I 2, I 3, I 4, I 5, I 6, I 9, I 7, I 11] 3 (0, 0)) → Calls Try.prog 14 #[confV c, v, .slice (some ⟨kb, 0, none⟩) 9 9] W fun e w' => e = .returned (.bool true) ∧ Below W.heap.size W w' := by
    intro W kb hb hk
    cases h : mayC c
    · obtain ⟨ao, cap, e, _⟩ := hs.form
      rw [e]
      exact plays_no c W h _ _ _ _ _ _
    · exact plays_c [1, 2, 3, 4, 5, 6, 9, 7, 11] (by decide) rest_any c W h v n l (hs.below hb) kb hk
  obtain ⟨ao, cap, rfl, _⟩ := hs.form
  unfold confV at h1 ⊢
  replace h1 : Hid _ := h1
  clear hs
  go_enter Try.func7, Try.ntmps7
  go_wp2_with fail
  have hb0 : Below w.heap.size w ((w.alloc (.cells #[I c.kind, I c.depth, I c.start, I c.slots, I c.width, I c.spin, I c.drain, I c.procs] 23)).alloc (.cells #[I 1, I 2, I 3, I 4, I 5, I 6, I 9, I 7, I 11] 3)) := ((Below.refl _ _).alloc (Nat.le_refl _) _).alloc (by simp) _
  refine (h1.out _ (w.heap.size + 1) hb0 (by
    have := nb_alloc (w.alloc (.cells #[I c.kind, I c.depth, I c.start, I c.slots, I c.width, I c.spin, I c.drain, I c.procs] 23)) #[I 1, I 2, I 3, I 4, I 5, I 6, I 9, I 7, I 11] 3
    simp only [World.size_alloc] at this
    exact this)).mono ?_
  rintro e w1 ⟨rfl, hb1⟩
  go_wp2
  go_ret
  exact ⟨rfl, hb0.trans (hb1.mono hb0.size)⟩


end Go.Proofs.Ytjnmpejcegmkhaa
