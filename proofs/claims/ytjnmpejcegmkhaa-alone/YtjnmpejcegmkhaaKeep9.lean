/- Contracts of package prismkeep's begin. No statement of the seat is proved here. -/
import Derived.Test.YtjnmpejcegmkhaaKeep2
import Derived.Test.YtjnmpejcegmkhaaNew1P
namespace Go.Proofs.Ytjnmpejcegmkhaa
open Go.RowKit

theorem PRep.base2 {w : World} {B B' : Nat} {L : PLay} (h : PRep w B L) (hb : B' ≤ B) : PRep w B' L :=
  ⟨h.tree, Nat.le_trans hb h.treeB, h.len, ownsRow_mono h.prow hb, fun v hv => ownsRow_mono (h.items v hv) hb, h.ind⟩

set_option maxHeartbeats 4000000 in
theorem kbegin_no (c : Conf) (w : World) (h : mayC c = false) : Calls Try.prog 15 #[confV c] w fun e w' => e = .returned (.tuple #[.pointer none, .bool true]) ∧ Below w.heap.size w w' := by
  have h1 := fun W => pnew_no c W h
  have h2 := fun W => good_c c W
  rw [h] at h2
  unfold confV at h1 h2 ⊢
  clear h
  replace h1 : Hid _ := h1
  replace h2 : Hid _ := h2
  go_enter Try.func15, Try.ntmps15
  go_wp2_with fail
  refine Calls.mono (h1.out _) ?_
  rintro e w1 ⟨rfl, hb1⟩
  have nb1 : w1.heap[w.heap.size]? = some (.cells #[I c.kind, I c.depth, I c.start, I c.slots, I c.width, I c.spin, I c.drain, I c.procs] 23 (0, 0)) := (hb1.block _ (by simp)).trans (nb_alloc _ _ _)
  have hb2 : Below w.heap.size w w1 := ((Below.refl _ _).alloc (Nat.le_refl _) _).trans (hb1.mono (by simp))
  obtain ⟨f1, _⟩ := nb_facts nb1
  clear hb1 h1
  go_wp2_with fail
  refine Calls.mono (h2.out _) ?_
  rintro e w2 ⟨rfl, hb3⟩
  go_wp2
  go_ret2
  exact ⟨rfl, hb2.trans (hb3.mono hb2.size)⟩

set_option maxHeartbeats 4000000 in
theorem kbegin_yes (c : Conf) (w : World) (h : mayC c = true) : Calls Try.prog 15 #[confV c] w fun e w' => ∃ hb P, e = .returned (.tuple #[.pointer (some ⟨hb, 0, none⟩), .bool true]) ∧ KRep w' w.heap.size hb P [] [] ∧ PNew c P ∧ Below w.heap.size w w' := by
  have h1 := fun W => pnew_yes c W h
  have h2 := fun W => good_c c W
  rw [h] at h2
  unfold confV at h1 h2 ⊢
  clear h
  replace h1 : Hid _ := h1
  replace h2 : Hid _ := h2
  go_enter Try.func15, Try.ntmps15
  go_wp2_with fail
  refine Calls.mono (h1.out _) ?_
  rintro e w1 ⟨P, rfl, hpr, hpn, hb1⟩
  have nb1 : w1.heap[w.heap.size]? = some (.cells #[I c.kind, I c.depth, I c.start, I c.slots, I c.width, I c.spin, I c.drain, I c.procs] 23 (0, 0)) := (hb1.block _ (by simp)).trans (nb_alloc _ _ _)
  have hb2 : Below w.heap.size w w1 := ((Below.refl _ _).alloc (Nat.le_refl _) _).trans (hb1.mono (by simp))
  obtain ⟨f1, _⟩ := nb_facts nb1
  have HPR : Hid _ := hpr
  clear hb1 h1 hpr
  go_wp2_with fail
  refine Calls.mono (h2.out _) ?_
  rintro e w2 ⟨rfl, hb3⟩
  have nb2 := (hb3.block _ (Array.getElem?_eq_some_iff.1 nb1).1).trans nb1
  obtain ⟨g1, _⟩ := nb_facts nb2
  have hb4 := hb2.trans (hb3.mono hb2.size)
  have HP2 : Hid _ := HPR.out.below hb3
  clear f1 hb3 hb2 HPR
  go_wp2_with fail
  go_ret2
  have hcf := hpn.conf
  refine ⟨w2.heap.size, P, rfl, ⟨⟨.slice none 0 0, .slice none 0 0, ?_, World.ownsRow_nil _ _ _ _, World.ownsRow_nil _ _ _ _⟩, hb4.size, ?_, by rw [hpn.procs]; rfl, rfl⟩, hpn, hb4.alloc hb4.size _⟩
  · unfold handCells
    rw [hcf]
    exact nb_alloc _ _ _
  · exact (HP2.out.below ((Below.refl _ _).alloc (Nat.le_refl _) _)).base2 (by simp)

end Go.Proofs.Ytjnmpejcegmkhaa
