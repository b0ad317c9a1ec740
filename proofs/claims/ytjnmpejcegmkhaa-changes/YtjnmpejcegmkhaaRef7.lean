/- Contracts of package prismref's happens, May and New. No statement of the seat is proved here. -/
import Derived.Test.YtjnmpejcegmkhaaRef6
import Derived.Deep.RegionLaw
import Derived.Deep.AppendLies
namespace Go.Proofs.Ytjnmpejcegmkhaa
open Go.RowKit

theorem Try.info125 : (Try.prog.info? 125).map (fun i => (i.zero, i.size, i.bytes)) = some (some (.agg #[.int .i64 0, .int .i64 0, .int .i64 0, .slice none 0 0]), 4, 48) := by kernel_rfl

set_option maxHeartbeats 4000000 in
theorem happens_walk {w : World} {B tb hb v n cap ll : Nat} {lv : Value} {cs : List Value} {a0 a1 a2 : Int} {io : Option Addr} {il ic : Nat}
    (h1 : w.cell? ⟨tb, 9, none⟩ = some (.slice (some ⟨hb, 0, none⟩) n cap)) (hv : v < n) (_hn : n ≤ cap) (_hcap : cap ≤ maxLen)
    (h2 : w.cell? ⟨hb, v, none⟩ = some lv) (hfz : w.frozen? ⟨hb, v, none⟩ = false)
    (hown : w.ownsRow B 125 4 lv ll cs) (hll : ll ≤ 1000000000000) (hB : B ≤ w.heap.size) (hne : ∀ g, lv.ownBlock = some g → g ≠ hb) (hnt : ∀ g, lv.ownBlock = some g → g ≠ tb) :
    Calls Try.prog 79 #[.pointer (some ⟨tb, 0, none⟩), I v, .agg #[I a0, I a1, I a2, .slice io il ic]] w fun e w' => ∃ w1 g cp, e = .returned (.tuple #[]) ∧ w1.ownsRow B 125 4 (.slice (some ⟨g, 0, none⟩) (ll + 1) cp) (ll + 1) (cs ++ [I a0, I a1, I a2, .slice io il ic]) ∧ w.grownBy w1 lv.ownBlock ∧ (lv.ownBlock = some g ∨ w.heap.size ≤ g) ∧ w' = w1.setCell ⟨hb, v, none⟩ (.slice (some ⟨g, 0, none⟩) (ll + 1) cp) := by
  obtain ⟨i0, hi, hz0, hz1, hz2⟩ := info_parts Try.info125
  obtain ⟨ao, lc, rfl, q1, q2, q3, _⟩ := ownsRow_cells hown
  have l1 := cell_lt h1
  have l2 := cell_lt h2
  unfold maxLen at _hcap q2 q3
  go_enter Try.func79, Try.ntmps79
  go_wp2_with fail
  have HG : Hid (∀ w', (((w.alloc (.cells #[I a0, I a1, I a2, .slice io il ic] 125)).alloc (.cells #[I a0, I a1, I a2, .slice io il ic] 125)).drew).grownBy w' (Value.slice ao ll lc).ownBlock → w.grownBy w' (Value.slice ao ll lc).ownBlock) := by
    intro w' hg
    refine ⟨hg.os, hg.tape, hg.output, Nat.le_trans (by simp; omega) hg.size, fun k hk hr => (hg.block k (by simp; omega) hr).trans ?_⟩
    show ((w.alloc _).alloc _).heap[k]? = _
    rw [Below.heap_alloc _ _ _ (by simp; omega), Below.heap_alloc _ _ _ hk]
  have HC : Hid (∀ w', w.grownBy w' (Value.slice ao ll lc).ownBlock → w'.cell? ⟨tb, 9, none⟩ = some (.slice (some ⟨hb, 0, none⟩) n cap) ∧ w'.cell? ⟨hb, v, none⟩ = some (.slice ao ll lc) ∧ w'.frozen? ⟨hb, v, none⟩ = false) := by
    intro w' hg
    have n1 : some hb ≠ (Value.slice ao ll lc).ownBlock := fun h => hne hb h.symm rfl
    have n2 : some tb ≠ (Value.slice ao ll lc).ownBlock := fun h => hnt tb h.symm rfl
    exact ⟨(World.cell?_of_block (a := ⟨tb, 9, none⟩) (hg.block tb l1 n2)).trans h1, (World.cell?_of_block (a := ⟨hb, v, none⟩) (hg.block hb l2 n1)).trans h2, (World.frozen?_of_block (a := ⟨hb, v, none⟩) (hg.block hb l2 n1)).trans hfz⟩
  have HO : Hid ((((w.alloc (.cells #[I a0, I a1, I a2, .slice io il ic] 125)).alloc (.cells #[I a0, I a1, I a2, .slice io il ic] 125)).drew).ownsRow B 125 4 (.slice ao ll lc) ll cs) := ((hown.alloc _).alloc _).drew
  have HN : Hid (∀ j u, [I a0, I a1, I a2, .slice io il ic][j]? = some u → (((w.alloc (.cells #[I a0, I a1, I a2, .slice io il ic] 125)).alloc (.cells #[I a0, I a1, I a2, .slice io il ic] 125)).drew).cell? ((⟨w.heap.size + 1, 0, none⟩ : Addr).add j) = some u) := by
    have := cells_new (w.alloc (.cells #[I a0, I a1, I a2, .slice io il ic] 125)) [I a0, I a1, I a2, .slice io il ic] 125
    simp only [World.size_alloc] at this
    exact this
  have H1 : Hid (∀ u ∈ [I a0, I a1, I a2, .slice io il ic], u.oneCell' = true) := by
    intro u hu
    simp only [List.mem_cons, List.not_mem_nil, or_false] at hu
    rcases hu with h | h | h | h <;> subst h <;> rfl
  have HB : Hid (B ≤ (((w.alloc (.cells #[I a0, I a1, I a2, .slice io il ic] 125)).alloc (.cells #[I a0, I a1, I a2, .slice io il ic] 125)).drew).heap.size) := by
    show B ≤ ((w.alloc _).alloc _).heap.size
    simp; omega
  have HM : Hid (ll + 1 ≤ maxLen) := by show _ ≤ _; unfold maxLen; omega
  have HY : Hid ((ll + 1) * 48 ≤ 140737488355328) := by show _ ≤ _; omega
  clear hown hfz hB hne hnt hll
  have HH : Hid ((((w.alloc (.cells #[I a0, I a1, I a2, .slice io il ic] 125)).alloc (.cells #[I a0, I a1, I a2, .slice io il ic] 125)).drew).heap.size = w.heap.size + 2) := by
    show ((w.alloc _).alloc _).heap.size = _
    simp
  go_region_law (refine step_append_lies _ rfl (.tmp 17) (.tmp 19) 136 rfl B 125 i0 _ 4 48 Try.underlying136 hi hz0 hz1 hz2 rfl (by decide) _ _ _ rfl HO.out ⟨w.heap.size + 1, 0, none⟩ 1 1 [I a0, I a1, I a2, .slice io il ic] rfl rfl HN.out H1.out (by decide) HM.out HY.out HB.out (w.heap.size + 2) HH.out ?_; intro g cp w3 ho hg hgl _; have hg2 := HG.out _ hg; obtain ⟨cc1, cc2, cc3⟩ := HC.out _ hg2; clear hg)
  all_goals
    go_end0
    exact ⟨w3, g, cp, rfl, ho, hg2, by rcases hgl with h | h; exact Or.inl h; exact Or.inr (by omega), rfl⟩

end Go.Proofs.Ytjnmpejcegmkhaa
