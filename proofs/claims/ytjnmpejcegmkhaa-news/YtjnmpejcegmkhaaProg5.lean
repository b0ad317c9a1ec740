/- The contract of the program's New. No statement of the seat is proved here. -/
import Derived.Test.YtjnmpejcegmkhaaProg4
namespace Go.Proofs.Ytjnmpejcegmkhaa
open Go.RowKit

structure PNew (c : Conf) (L : PLay) : Prop where
  conf : L.c = c
  procs : L.procs = []
  nodes : ∀ v, 1 ≤ v → v < 32 → L.nodes.getD v zeroPN = newPN (2 ^ c.start.toNat) v

def zTail : List Value := (List.replicate 32 zeroPN).flatMap pnCells ++ [Value.slice none 0 0]
theorem zTail_tree (b : Nat) (c : Conf) : pTree ⟨b, c, List.replicate 32 zeroPN, .slice none 0 0, []⟩ = pConf c ++ zTail := rfl

theorem zero_cells : Try.zeroCells78 = (pTree ⟨0, ⟨0, 0, 0, 0, 0, 0, 0, 0⟩, List.replicate 32 zeroPN, .slice none 0 0, []⟩).toArray := by kernel_rfl

theorem zero_set (c : Conf) : ((((((((Try.zeroCells78.setIfInBounds 0 (I c.kind)).setIfInBounds 1 (I c.depth)).setIfInBounds 2 (I c.start)).setIfInBounds 3 (I c.slots)).setIfInBounds 4 (I c.width)).setIfInBounds 5 (I c.spin)).setIfInBounds 6 (I c.drain)).setIfInBounds 7 (I c.procs)) = (pConf c ++ zTail).toArray := by
  rw [zero_cells, zTail_tree]
  generalize zTail = r
  simp only [List.setIfInBounds_toArray, pConf, List.cons_append, List.nil_append, List.set_cons_zero, List.set_cons_succ]

set_option maxHeartbeats 4000000 in
theorem pnew_no (c : Conf) (w : World) (h : mayC c = false) : Calls Try.prog 36 #[confV c] w fun e w' => e = .returned (.tuple #[.pointer none, I 1]) ∧ Below w.heap.size w w' := by
  have hm := isConfig_c c (w.alloc (.cells #[I c.kind, I c.depth, I c.start, I c.slots, I c.width, I c.spin, I c.drain, I c.procs] 23))
  rw [h] at hm
  unfold confV at hm ⊢
  clear h
  go_enter Try.func36, Try.ntmps36
  go_wp2_with fail
  refine hm.mono ?_
  rintro e w1 ⟨rfl, hb1⟩
  go_wp2_with fail
  go_ret2
  exact ⟨rfl, ((Below.refl _ _).alloc (Nat.le_refl _) _).trans (hb1.mono (by simp))⟩

set_option maxHeartbeats 4000000 in
theorem pnew_yes (c : Conf) (w : World) (h : mayC c = true) : Calls Try.prog 36 #[confV c] w fun e w' => ∃ L, e = .returned (.tuple #[.pointer (some ⟨L.tb, 0, none⟩), I 0]) ∧ PRep w' w.heap.size L ∧ PNew c L ∧ Below w.heap.size w w' := by
  have hm := isConfig_c c (w.alloc (.cells #[I c.kind, I c.depth, I c.start, I c.slots, I c.width, I c.spin, I c.drain, I c.procs] 23))
  rw [h] at hm
  have hc : 0 ≤ c.start ∧ c.start ≤ 4 := by simp [mayC] at h; omega
  obtain ⟨s, hs⟩ := Int.eq_ofNat_of_zero_le hc.1
  have hs4 : s ≤ 4 := by omega
  have HS : Hid (c.start = s) := hs
  unfold confV at hm ⊢
  clear h hc hs
  go_enter Try.func36, Try.ntmps36
  go_wp2_with fail
  refine hm.mono ?_
  rintro e w1 ⟨rfl, hb1⟩
  have nb1 : w1.heap[w.heap.size]? = some (.cells #[I c.kind, I c.depth, I c.start, I c.slots, I c.width, I c.spin, I c.drain, I c.procs] 23 (0, 0)) := (hb1.block _ (by simp)).trans (nb_alloc _ _ _)
  have hb2 : Below w.heap.size w w1 := ((Below.refl _ _).alloc (Nat.le_refl _) _).trans (hb1.mono (by simp))
  clear hb1 hm
  obtain ⟨f1, _⟩ := nb_facts nb1
  go_wp2_with fail
  rw [zero_set c]
  have hrep : PRep (w1.alloc (.cells (pConf c ++ zTail).toArray 78)) w.heap.size ⟨w1.heap.size, c, List.replicate 32 zeroPN, .slice none 0 0, []⟩ := by
    refine ⟨by rw [zTail_tree]; exact nb_alloc _ _ _, hb2.size, List.length_replicate, World.ownsRow_nil _ _ _ _, fun v hv => ?_, fun u v hu hv g e1 _ => ?_⟩
    · simp only [List.getElem_replicate]
      exact World.ownsRow_nil _ _ _ _
    · simp only [List.getElem_replicate] at e1
      exact absurd e1 (by simp [zeroPN, Value.ownBlock])
  have hpl := plant_c hrep s HS.out hs4 rfl
  have hb3 := hb2.alloc hb2.size (.cells (pConf c ++ zTail).toArray 78)
  generalize w1.alloc (.cells (pConf c ++ zTail).toArray 78) = w2 at *
  refine hpl.mono ?_
  rintro e w3 ⟨rfl, ⟨L, hrep2, hm2⟩, hb4⟩
  clear f1 nb1 hrep hpl
  go_wp2
  go_ret2
  have htb : L.tb = w1.heap.size := hm2.tb
  exact ⟨L, by rw [htb]; rfl, hrep2, ⟨hm2.c, hm2.procs, fun v h1 h2 => by rw [hm2.nodes v h1 h2, if_pos h2, HS.out]; rfl⟩, hb3.trans hb4⟩

end Go.Proofs.Ytjnmpejcegmkhaa
