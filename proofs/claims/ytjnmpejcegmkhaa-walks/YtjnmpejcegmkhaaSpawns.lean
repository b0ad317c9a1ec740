/- The walk of the statement Spawns: for every configuration and script the call answers true, and what was there is as it was. -/
import Derived.Test.YtjnmpejcegmkhaaSp4
namespace Go.Proofs.Ytjnmpejcegmkhaa
open Go.RowKit

set_option maxHeartbeats 4000000 in
theorem plays_no (c : Conf) (w : World) (h : mayC c = false) (ao ko : Option Addr) (n cap kn kc : Nat) : Calls Try.prog 14 #[confV c, .slice ao n cap, .slice ko kn kc] w fun e w' => e = .returned (.bool true) ∧ Below w.heap.size w w' := by
  have h1 := fun W => begin_no c W h
  unfold confV at h1 ⊢
  clear h
  replace h1 : Hid _ := h1
  go_enter Try.func14, Try.ntmps14
  go_wp2_with fail
  refine (h1.out _).mono ?_
  rintro e w1 ⟨rfl, hb1⟩
  have hb2 : Below w.heap.size w w1 := ((Below.refl _ _).alloc (Nat.le_refl _) _).trans (hb1.mono (by simp))
  clear hb1 h1
  go_wp2
  go_ret
  exact ⟨rfl, hb2⟩

theorem ScriptAt.below {w w' : World} {v : Value} {n : Nat} {l : Nat → Int × Int × Int} (h : ScriptAt w v n l) (hb : Below w.heap.size w w') : ScriptAt w' v n l := by
  obtain ⟨ao, cap, h1, h2, h3, h4⟩ := h.form
  refine ⟨⟨ao, cap, h1, h2, h3, fun i hi => ?_⟩⟩
  obtain ⟨b, off, e, lb, c0, c1, c2⟩ := h4 i hi
  exact ⟨b, off, e, Nat.lt_of_lt_of_le lb hb.size, (hb.cell (p := ⟨b, off + i * 3, none⟩) lb).trans c0, (hb.cell (p := ⟨b, off + i * 3 + 1, none⟩) lb).trans c1, (hb.cell (p := ⟨b, off + i * 3 + 2, none⟩) lb).trans c2⟩

set_option maxHeartbeats 4000000 in
theorem spawns_walk (c : Conf) (w : World) (v : Value) (n : Nat) (l : Nat → Int × Int × Int) (hs : ScriptAt w v n l) : Calls Try.prog 4 #[confV c, v] w fun e w' => e = .returned (.bool true) ∧ Below w.heap.size w w' := by
  have h1 : ∀ W kb, Below w.heap.size w W → W.heap[kb]? = some (.cells #[I 1, I 2, I 3, I 4, I 5, I 6, I 7, I 11] 3 (0, 0)) → Calls Try.prog 14 #[confV c, v, .slice (some ⟨kb, 0, none⟩) 8 8] W fun e w' => e = .returned (.bool true) ∧ Below W.heap.size W w' := by
    intro W kb hb hk
    cases h : mayC c
    · obtain ⟨ao, cap, e, _⟩ := hs.form
      rw [e]
      exact plays_no c W h _ _ _ _ _ _
    · exact plays_sp c W h v n l (hs.below hb) kb hk
  obtain ⟨ao, cap, rfl, _⟩ := hs.form
  unfold confV at h1 ⊢
  replace h1 : Hid _ := h1
  clear hs
  go_enter Try.func4, Try.ntmps4
  go_wp2_with fail
  have hb0 : Below w.heap.size w ((w.alloc (.cells #[I c.kind, I c.depth, I c.start, I c.slots, I c.width, I c.spin, I c.drain, I c.procs] 23)).alloc (.cells #[I 1, I 2, I 3, I 4, I 5, I 6, I 7, I 11] 3)) := ((Below.refl _ _).alloc (Nat.le_refl _) _).alloc (by simp) _
  refine (h1.out _ (w.heap.size + 1) hb0 (by
    have := nb_alloc (w.alloc (.cells #[I c.kind, I c.depth, I c.start, I c.slots, I c.width, I c.spin, I c.drain, I c.procs] 23)) #[I 1, I 2, I 3, I 4, I 5, I 6, I 7, I 11] 3
    simp only [World.size_alloc] at this
    exact this)).mono ?_
  rintro e w1 ⟨rfl, hb1⟩
  go_wp2
  go_ret
  exact ⟨rfl, hb0.trans (hb1.mono hb0.size)⟩

end Go.Proofs.Ytjnmpejcegmkhaa
