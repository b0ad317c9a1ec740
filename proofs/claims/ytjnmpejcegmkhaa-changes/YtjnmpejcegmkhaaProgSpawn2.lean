/- Contracts of the program's newProcess and Spawn. No statement of the seat is proved here. -/
import Derived.Test.YtjnmpejcegmkhaaProgSpawn
import Derived.Test.YtjnmpejcegmkhaaProg4
import Derived.Deep.RegionWith
import Derived.Deep.RegionLaw
import Derived.Deep.AppendLies
namespace Go.Proofs.Ytjnmpejcegmkhaa
open Go.RowKit

theorem nb_alloc3 (w : World) (o o' : Obj) (arr : Array Value) (T : TypeId) : (((w.alloc o).alloc o').alloc (.cells arr T)).heap[w.heap.size + 2]? = some (.cells arr T (0, 0)) := by
  have := nb_alloc ((w.alloc o).alloc o') arr T
  have e : ((w.alloc o).alloc o').heap.size = w.heap.size + 2 := by simp
  rw [e] at this
  exact this

set_option maxHeartbeats 2000000 in
theorem newProcess_c (o : Op3) (w : World) : Calls Try.prog 73 #[opV o] w fun e w' => e = .returned (.agg (ppCells (newPP o)).toArray) ∧ Below w.heap.size w w' := by
  have hch := fun W => pchanges_c o W
  unfold opV at hch ⊢
  replace hch : Hid _ := hch
  obtain ⟨kind, val, node⟩ := o
  simp only at *
  by_cases hc : isChange ⟨kind, val, node⟩ = true
  · rw [hc] at hch
    by_cases hn : node = 1
    · have bn : (node == 1) = true := by simp [hn]
      have HNP : Hid (newPP ⟨kind, val, node⟩ = ⟨kind, val, node, 15, 1, 0, 0, 0, 0, 0, 0⟩) := by show _ = _; rw [newPP, hc]; simp [hn]
      clear hc hn
      go_enter Try.func73, Try.ntmps73
      go_wp2_with fail
      refine (hch.out _).mono ?_
      rintro e w1 ⟨rfl, hb1⟩
      have na : w1.heap[w.heap.size]? = some (.cells #[I kind, I val, I node] 33 (0, 0)) := (hb1.block _ (by simp; omega)).trans (by
        rw [Below.heap_alloc _ _ _ (by simp; omega), Below.heap_alloc _ _ _ (by simp)]; exact nb_alloc _ _ _)
      have nb : w1.heap[w.heap.size + 1]? = some (.cells #[I 0, I 0, I 0, I 0, I 0, I 0, I 0, I 0, I 0, I 0, I 0] 119 (0, 0)) := (hb1.block _ (by simp)).trans (by
        rw [Below.heap_alloc _ _ _ (by simp)]
        exact nb_alloc2 _ _ _ _)
      have nc : w1.heap[w.heap.size + 2]? = some (.cells #[I kind, I val, I node, I 0, I 1, I 0, I 0, I 0, I 0, I 0, I 0] 119 (0, 0)) := (hb1.block _ (by simp)).trans (nb_alloc3 _ _ _ _ _)
      have hb2 : Below w.heap.size w w1 := ((((Below.refl _ _).alloc (Nat.le_refl _) _).alloc (by simp) _).alloc (by simp; omega) _).trans (hb1.mono (by simp; omega))
      obtain ⟨f1, _⟩ := nb_facts na
      obtain ⟨g1, g2⟩ := nb_facts nb
      obtain ⟨h1, h2⟩ := nb_facts nc
      clear hb1 hch na nb nc
      go_wp2
      refine bodyPost_ret (v := .agg #[I kind, I val, I node, I 15, I 1, I 0, I 0, I 0, I 0, I 0, I 0]) (by simp [results, Try.results73, go_sem, g1]) rfl ⟨by rw [HNP.out]; rfl, ?_⟩
      have hb3 := hb2.setCell (p := ⟨w.heap.size + 2, 3, none⟩) (by simp) (I 15)
      exact (((((((((((hb3.setCell (p := ⟨w.heap.size + 1, 0, none⟩) (by simp) (I kind)).setCell (p := ⟨w.heap.size + 1, 1, none⟩) (by simp) (I val)).setCell (p := ⟨w.heap.size + 1, 2, none⟩) (by simp) (I node)).setCell (p := ⟨w.heap.size + 1, 3, none⟩) (by simp) (I 15)).setCell (p := ⟨w.heap.size + 1, 4, none⟩) (by simp) (I 1)).setCell (p := ⟨w.heap.size + 1, 5, none⟩) (by simp) (I 0)).setCell (p := ⟨w.heap.size + 1, 6, none⟩) (by simp) (I 0)).setCell (p := ⟨w.heap.size + 1, 7, none⟩) (by simp) (I 0)).setCell (p := ⟨w.heap.size + 1, 8, none⟩) (by simp) (I 0)).setCell (p := ⟨w.heap.size + 1, 9, none⟩) (by simp) (I 0)).setCell (p := ⟨w.heap.size + 1, 10, none⟩) (by simp) (I 0))
    · have bn : (node == 1) = false := by simp [hn]
      have HNP : Hid (newPP ⟨kind, val, node⟩ = ⟨kind, val, node, 0, 1, 0, 0, 0, 0, 0, 0⟩) := by show _ = _; rw [newPP, hc]; simp [hn]
      clear hc hn
      go_enter Try.func73, Try.ntmps73
      go_wp2_with fail
      refine (hch.out _).mono ?_
      rintro e w1 ⟨rfl, hb1⟩
      have na : w1.heap[w.heap.size]? = some (.cells #[I kind, I val, I node] 33 (0, 0)) := (hb1.block _ (by simp; omega)).trans (by
        rw [Below.heap_alloc _ _ _ (by simp; omega), Below.heap_alloc _ _ _ (by simp)]; exact nb_alloc _ _ _)
      have nb : w1.heap[w.heap.size + 1]? = some (.cells #[I 0, I 0, I 0, I 0, I 0, I 0, I 0, I 0, I 0, I 0, I 0] 119 (0, 0)) := (hb1.block _ (by simp)).trans (by
        rw [Below.heap_alloc _ _ _ (by simp)]
        exact nb_alloc2 _ _ _ _)
      have nc : w1.heap[w.heap.size + 2]? = some (.cells #[I kind, I val, I node, I 0, I 1, I 0, I 0, I 0, I 0, I 0, I 0] 119 (0, 0)) := (hb1.block _ (by simp)).trans (nb_alloc3 _ _ _ _ _)
      have hb2 : Below w.heap.size w w1 := ((((Below.refl _ _).alloc (Nat.le_refl _) _).alloc (by simp) _).alloc (by simp; omega) _).trans (hb1.mono (by simp; omega))
      obtain ⟨f1, _⟩ := nb_facts na
      obtain ⟨g1, g2⟩ := nb_facts nb
      obtain ⟨h1, h2⟩ := nb_facts nc
      clear hb1 hch na nb nc
      go_wp2
      refine bodyPost_ret (v := .agg #[I kind, I val, I node, I 0, I 1, I 0, I 0, I 0, I 0, I 0, I 0]) (by simp [results, Try.results73, go_sem, g1]) rfl ⟨by rw [HNP.out]; rfl, ?_⟩
      exact (((((((((((hb2.setCell (p := ⟨w.heap.size + 1, 0, none⟩) (by simp) (I kind)).setCell (p := ⟨w.heap.size + 1, 1, none⟩) (by simp) (I val)).setCell (p := ⟨w.heap.size + 1, 2, none⟩) (by simp) (I node)).setCell (p := ⟨w.heap.size + 1, 3, none⟩) (by simp) (I 0)).setCell (p := ⟨w.heap.size + 1, 4, none⟩) (by simp) (I 1)).setCell (p := ⟨w.heap.size + 1, 5, none⟩) (by simp) (I 0)).setCell (p := ⟨w.heap.size + 1, 6, none⟩) (by simp) (I 0)).setCell (p := ⟨w.heap.size + 1, 7, none⟩) (by simp) (I 0)).setCell (p := ⟨w.heap.size + 1, 8, none⟩) (by simp) (I 0)).setCell (p := ⟨w.heap.size + 1, 9, none⟩) (by simp) (I 0)).setCell (p := ⟨w.heap.size + 1, 10, none⟩) (by simp) (I 0))
  · have hcf : isChange ⟨kind, val, node⟩ = false := by simpa using hc
    rw [hcf] at hch
    have HNP : Hid (newPP ⟨kind, val, node⟩ = ⟨kind, val, node, 0, 1, 0, 0, 0, 0, 0, 0⟩) := by show _ = _; rw [newPP, hcf]; simp
    clear hc hcf
    go_enter Try.func73, Try.ntmps73
    go_wp2_with fail
    refine (hch.out _).mono ?_
    rintro e w1 ⟨rfl, hb1⟩
    have na : w1.heap[w.heap.size]? = some (.cells #[I kind, I val, I node] 33 (0, 0)) := (hb1.block _ (by simp; omega)).trans (by
      rw [Below.heap_alloc _ _ _ (by simp; omega), Below.heap_alloc _ _ _ (by simp)]; exact nb_alloc _ _ _)
    have nb : w1.heap[w.heap.size + 1]? = some (.cells #[I 0, I 0, I 0, I 0, I 0, I 0, I 0, I 0, I 0, I 0, I 0] 119 (0, 0)) := (hb1.block _ (by simp)).trans (by
      rw [Below.heap_alloc _ _ _ (by simp)]
      exact nb_alloc2 _ _ _ _)
    have nc : w1.heap[w.heap.size + 2]? = some (.cells #[I kind, I val, I node, I 0, I 1, I 0, I 0, I 0, I 0, I 0, I 0] 119 (0, 0)) := (hb1.block _ (by simp)).trans (nb_alloc3 _ _ _ _ _)
    have hb2 : Below w.heap.size w w1 := ((((Below.refl _ _).alloc (Nat.le_refl _) _).alloc (by simp) _).alloc (by simp; omega) _).trans (hb1.mono (by simp; omega))
    obtain ⟨f1, _⟩ := nb_facts na
    obtain ⟨g1, g2⟩ := nb_facts nb
    obtain ⟨h1, h2⟩ := nb_facts nc
    clear hb1 hch na nb nc
    go_wp2
    refine bodyPost_ret (v := .agg #[I kind, I val, I node, I 0, I 1, I 0, I 0, I 0, I 0, I 0, I 0]) (by simp [results, Try.results73, go_sem, g1]) rfl ⟨by rw [HNP.out]; rfl, ?_⟩
    exact (((((((((((hb2.setCell (p := ⟨w.heap.size + 1, 0, none⟩) (by simp) (I kind)).setCell (p := ⟨w.heap.size + 1, 1, none⟩) (by simp) (I val)).setCell (p := ⟨w.heap.size + 1, 2, none⟩) (by simp) (I node)).setCell (p := ⟨w.heap.size + 1, 3, none⟩) (by simp) (I 0)).setCell (p := ⟨w.heap.size + 1, 4, none⟩) (by simp) (I 1)).setCell (p := ⟨w.heap.size + 1, 5, none⟩) (by simp) (I 0)).setCell (p := ⟨w.heap.size + 1, 6, none⟩) (by simp) (I 0)).setCell (p := ⟨w.heap.size + 1, 7, none⟩) (by simp) (I 0)).setCell (p := ⟨w.heap.size + 1, 8, none⟩) (by simp) (I 0)).setCell (p := ⟨w.heap.size + 1, 9, none⟩) (by simp) (I 0)).setCell (p := ⟨w.heap.size + 1, 10, none⟩) (by simp) (I 0))

end Go.Proofs.Ytjnmpejcegmkhaa
