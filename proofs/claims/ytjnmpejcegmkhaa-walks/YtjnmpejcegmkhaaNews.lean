/- The walk of the statement News: for every configuration the call answers true, and what was there is as it was. -/
import Derived.Test.YtjnmpejcegmkhaaNew1
namespace Go.Proofs.Ytjnmpejcegmkhaa
open Go.RowKit

theorem RefRep.base {w : World} {B B' : Nat} {L : Lay} (h : RefRep w B L) (hb : B' ≤ B) : RefRep w B' L :=
  ⟨h.tree, Nat.le_trans hb h.treeB, ownsRow_mono h.prow hb, fun i hi => ⟨(h.pblk i hi).1, Nat.le_trans hb (h.pblk i hi).2⟩, h.pnd, ownsRow_mono h.hrow hb, fun i hi => ownsRow_mono (h.hist i hi) hb, fun i hi y hy => ownsRow_mono (h.items i hi y hy) hb, h.hnd⟩
theorem PRep.base {w : World} {B B' : Nat} {L : PLay} (h : PRep w B L) (hb : B' ≤ B) : PRep w B' L :=
  ⟨h.tree, Nat.le_trans hb h.treeB, h.len, ownsRow_mono h.prow hb, fun v hv => ownsRow_mono (h.items v hv) hb, h.ind⟩

set_option maxHeartbeats 4000000 in
theorem begin_no (c : Conf) (w : World) (h : mayC c = false) : Calls Try.prog 32 #[confV c] w fun e w' => e = .returned (.tuple #[.pointer none, .bool true]) ∧ Below w.heap.size w w' := by
  have h1 := fun W => pnew_no c W h
  have h2 := fun W => rnew_no c W h
  unfold confV at h1 h2 ⊢
  clear h
  replace h1 : Hid _ := h1
  replace h2 : Hid _ := h2
  go_enter Try.func32, Try.ntmps32
  go_wp2_with fail
  refine (h1.out _).mono ?_
  rintro e w1 ⟨rfl, hb1⟩
  have nb1 : w1.heap[w.heap.size]? = some (.cells #[I c.kind, I c.depth, I c.start, I c.slots, I c.width, I c.spin, I c.drain, I c.procs] 23 (0, 0)) := (hb1.block _ (by simp)).trans (nb_alloc _ _ _)
  have hb2 : Below w.heap.size w w1 := ((Below.refl _ _).alloc (Nat.le_refl _) _).trans (hb1.mono (by simp))
  clear hb1
  obtain ⟨f1, _⟩ := nb_facts nb1
  go_wp2_with fail
  refine (h2.out _).mono ?_
  rintro e w2 ⟨rfl, hb3⟩
  have hb4 := hb2.trans (hb3.mono hb2.size)
  clear f1 nb1 hb2 hb3 h1 h2
  go_wp2
  go_ret2
  exact ⟨rfl, hb4⟩

set_option maxHeartbeats 4000000 in
theorem begin_yes (c : Conf) (w : World) (h : mayC c = true) : Calls Try.prog 32 #[confV c] w fun e w' => ∃ lb L P, e = .returned (.tuple #[.pointer (some ⟨lb, 0, none⟩), .bool true]) ∧ RefRep w' w.heap.size L ∧ NewLay c L ∧ PRep w' w.heap.size P ∧ PNew c P ∧
    w'.heap[lb]? = some (.cells #[.pointer (some ⟨P.tb, 0, none⟩), .pointer (some ⟨L.tb, 0, none⟩), .slice none 0 0, .slice none 0 0, .slice none 0 0, I (-1000)] 103 (0, 0)) ∧ w.heap.size ≤ lb ∧ Below w.heap.size w w' := by
  have h1 := fun W => pnew_yes c W h
  have h2 := fun W => rnew_yes c W h
  unfold confV at h1 h2 ⊢
  clear h
  replace h1 : Hid _ := h1
  replace h2 : Hid _ := h2
  go_enter Try.func32, Try.ntmps32
  go_wp2_with fail
  refine (h1.out _).mono ?_
  rintro e w1 ⟨P, rfl, hp, hpn, hb1⟩
  have nb1 : w1.heap[w.heap.size]? = some (.cells #[I c.kind, I c.depth, I c.start, I c.slots, I c.width, I c.spin, I c.drain, I c.procs] 23 (0, 0)) := (hb1.block _ (by simp)).trans (nb_alloc _ _ _)
  have hb2 : Below w.heap.size w w1 := ((Below.refl _ _).alloc (Nat.le_refl _) _).trans (hb1.mono (by simp))
  clear hb1
  obtain ⟨f1, _⟩ := nb_facts nb1
  go_wp2_with fail
  refine (h2.out _).mono ?_
  rintro e w2 ⟨L, rfl, hr, hrn, hb3⟩
  have hb4 := hb2.trans (hb3.mono hb2.size)
  have hp2 := hp.below hb3
  clear f1 nb1 hb3 h1 h2 hp
  go_wp2
  go_ret2
  have nl := nb_alloc w2 #[.pointer (some ⟨P.tb, 0, none⟩), .pointer (some ⟨L.tb, 0, none⟩), .slice none 0 0, .slice none 0 0, .slice none 0 0, I (-1000)] 103
  have hba := (Below.refl w2.heap.size w2).alloc (Nat.le_refl _) (.cells #[.pointer (some ⟨P.tb, 0, none⟩), .pointer (some ⟨L.tb, 0, none⟩), .slice none 0 0, .slice none 0 0, .slice none 0 0, I (-1000)] 103)
  exact ⟨_, L, P, rfl, (hr.below hba).base hb2.size, hrn, (hp2.below hba).base (by simp), hpn, nl, hb4.size, hb4.alloc hb4.size _⟩

set_option maxHeartbeats 4000000 in
theorem plays_nil_no (c : Conf) (w : World) (h : mayC c = false) : Calls Try.prog 14 #[confV c, .slice none 0 0, .slice none 0 0] w fun e w' => e = .returned (.bool true) ∧ Below w.heap.size w w' := by
  have h1 := fun W => begin_no c W h
  unfold confV at h1 ⊢
  clear h
  replace h1 : Hid _ := h1
  go_enter Try.func14, Try.ntmps14
  go_wp2_with fail
  refine (h1.out _).mono ?_
  rintro e w1 ⟨rfl, hb1⟩
  have hb2 : Below w.heap.size w w1 := ((Below.refl _ _).alloc (Nat.le_refl _) _).trans (hb1.mono (by simp))
  clear hb1 h1
  go_wp2
  go_ret
  exact ⟨rfl, hb2⟩

set_option maxHeartbeats 4000000 in
theorem plays_nil_yes (c : Conf) (w : World) (h : mayC c = true) : Calls Try.prog 14 #[confV c, .slice none 0 0, .slice none 0 0] w fun e w' => e = .returned (.bool true) ∧ Below w.heap.size w w' := by
  have h1 := fun W => begin_yes c W h
  unfold confV at h1 ⊢
  have HM : Hid (mayC c = true) := h
  clear h
  replace h1 : Hid _ := h1
  go_enter Try.func14, Try.ntmps14
  go_wp2_with fail
  refine (h1.out _).mono ?_
  rintro e w1 ⟨lb, L, P, rfl, hr, hrn, hp, hpn, hlb, _, hb1⟩
  have hb2 : Below w.heap.size w w1 := ((Below.refl _ _).alloc (Nat.le_refl _) _).trans (hb1.mono (by simp))
  have hlaw : LawRep w1 lb (.pointer (some ⟨P.tb, 0, none⟩)) L.tb := ⟨⟨_, _, _, _, hlb⟩, ⟨_, _, rfl⟩⟩
  have hlen : 1 ≤ L.past.length := by rw [hrn.len]; exact Nat.two_pow_pos _
  have hag := agrees_c hlaw hr (newLay_ok hrn HM.out) hlen (new_agree HM.out hrn hpn hp hr)
  clear hb1 h1 hlb hlaw hr hrn hp hpn hlen
  go_wp2_with fail
  refine wp_loop_rounds 1 ?_
  rw [rounds_succ]
  go_wp2_with fail
  refine hag.mono ?_
  rintro e w2 ⟨rfl, hb3⟩
  go_wp2
  go_ret
  exact ⟨rfl, hb2.trans (hb3.mono hb2.size)⟩

set_option maxHeartbeats 4000000 in
theorem news_walk (c : Conf) (w : World) : Calls Try.prog 3 #[confV c] w fun e w' => e = .returned (.bool true) ∧ Below w.heap.size w w' := by
  have h1 : ∀ W, Calls Try.prog 14 #[confV c, .slice none 0 0, .slice none 0 0] W fun e w' => e = .returned (.bool true) ∧ Below W.heap.size W w' := by
    intro W
    cases h : mayC c
    · exact plays_nil_no c W h
    · exact plays_nil_yes c W h
  unfold confV at h1 ⊢
  replace h1 : Hid _ := h1
  go_enter Try.func3, Try.ntmps3
  go_wp2_with fail
  refine (h1.out _).mono ?_
  rintro e w1 ⟨rfl, hb1⟩
  go_wp2
  go_ret
  exact ⟨rfl, ((Below.refl _ _).alloc (Nat.le_refl _) _).trans (hb1.mono (by simp))⟩

end Go.Proofs.Ytjnmpejcegmkhaa
