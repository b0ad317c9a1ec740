/- Contracts of package prismkeep's sameInts and sameNode, of what is alike. No statement of the seat is proved here. -/
import Derived.Test.YtjnmpejcegmkhaaRefB
namespace Go.Proofs.Ytjnmpejcegmkhaa
open Go.RowKit

set_option maxHeartbeats 1000000 in
theorem ksameInts_c {w : World} {ba bb : Nat} {a b : Value} {n m : Nat} {xs : List Int} (ha : w.ownsRow ba 3 1 a n (xs.map I)) (hb : w.ownsRow bb 3 1 b m (xs.map I)) :
    Calls Try.prog 76 #[a, b] w fun e w' => e = .returned (.bool true) ∧ Below w.heap.size w w' := by
  obtain ⟨ao, ca, rfl, a1, a2, rfl, a4⟩ := row_cells ha
  obtain ⟨bo, cb, rfl, b1, b2, rfl, b4⟩ := row_cells hb
  unfold maxLen at a2 b2
  clear ha hb
  go_enter Try.func76, Try.ntmps76
  go_wp2
  go_loopw [5] (fun i wr => ∃ k : Nat, k ≤ xs.length ∧ i = .int .i64 k ∧ Below w.heap.size w wr) (fun i _ => xs.length - (intOf i).toNat)
  case atStart => exact ⟨0, Nat.zero_le _, rfl, Below.refl _ _⟩
  case round =>
    obtain ⟨k, hk, rfl, hbr⟩ := hrel
    by_cases hlt : k < xs.length
    · obtain ⟨g, rfl, l1, c1⟩ := a4 k hlt
      obtain ⟨g', rfl, l2, c2⟩ := b4 k hlt
      have d1 := (hbr.cell (p := ⟨g, k, none⟩) l1).trans c1
      have d2 := (hbr.cell (p := ⟨g', k, none⟩) l2).trans c2
      clear c1 c2 a4 b4
      generalize xs[k] = y at *
      go_wp2
      go_region
      go_wp2
      go_roundw
      case rel => exact ⟨k + 1, by omega, by go_num, hbr.drew⟩
      case measure => simp [intOf]; omega
    · go_wp2
      go_ret
      exact ⟨rfl, hbr⟩

set_option maxHeartbeats 2000000 in
theorem ksameNode_c {w : World} {ba bb n1 n2 m1 m2 : Nat} {d : ND} {wv iv wv' iv' : Value} (h1 : w.ownsRow ba 3 1 wv n1 (d.waiting.map I)) (h2 : w.ownsRow bb 3 1 wv' n2 (d.waiting.map I))
    (h3 : w.ownsRow ba 3 1 iv m1 (d.items.map I)) (h4 : w.ownsRow bb 3 1 iv' m2 (d.items.map I)) :
    Calls Try.prog 45 #[.agg #[I d.num, I d.depth, I d.rank, .bool d.inner, .bool d.shut, I d.inside, I d.toggle, I d.width, wv, I d.puts, I d.gets, iv],
      .agg #[I d.num, I d.depth, I d.rank, .bool d.inner, .bool d.shut, I d.inside, I d.toggle, I d.width, wv', I d.puts, I d.gets, iv']] w fun e w' => e = .returned (.bool true) ∧ Below w.heap.size w w' := by
  have H1 := fun w' (hb : Below w.heap.size w w') => ksameInts_c (ownsRow_below h1 hb (Nat.le_refl _)) (ownsRow_below h2 hb (Nat.le_refl _))
  have H2 := fun w' (hb : Below w.heap.size w w') => ksameInts_c (ownsRow_below h3 hb (Nat.le_refl _)) (ownsRow_below h4 hb (Nat.le_refl _))
  obtain ⟨ao, ca, rfl, _⟩ := row_cells h1
  obtain ⟨ao', ca', rfl, _⟩ := row_cells h2
  obtain ⟨bo, cb, rfl, _⟩ := row_cells h3
  obtain ⟨bo', cb', rfl, _⟩ := row_cells h4
  clear h1 h2 h3 h4
  obtain ⟨num, dep, rk, inner, sh, ins, tog, wid, wt, pu, ge, its⟩ := d
  simp only at *
  replace H1 : Hid _ := H1
  replace H2 : Hid _ := H2
  go_enter Try.func45, Try.ntmps45
  go_wp2_with fail
  have hb0 : Below w.heap.size w ((w.alloc (.cells #[I num, I dep, I rk, .bool inner, .bool sh, I ins, I tog, I wid, .slice ao n1 ca, I pu, I ge, .slice bo m1 cb] 49)).alloc (.cells #[I num, I dep, I rk, .bool inner, .bool sh, I ins, I tog, I wid, .slice ao' n2 ca', I pu, I ge, .slice bo' m2 cb'] 49)) :=
    ((Below.refl _ _).alloc (Nat.le_refl _) _).alloc (by simp) _
  refine (H1.out _ hb0).mono ?_
  rintro x w1 ⟨rfl, hb1⟩
  have hb2 := hb0.trans (hb1.mono hb0.size)
  have na : w1.heap[w.heap.size]? = some (.cells #[I num, I dep, I rk, .bool inner, .bool sh, I ins, I tog, I wid, .slice ao n1 ca, I pu, I ge, .slice bo m1 cb] 49 (0, 0)) :=
    (hb1.block _ (by simp; omega)).trans (by rw [Below.heap_alloc _ _ _ (by simp)]; exact nb_alloc _ _ _)
  have nc : w1.heap[w.heap.size + 1]? = some (.cells #[I num, I dep, I rk, .bool inner, .bool sh, I ins, I tog, I wid, .slice ao' n2 ca', I pu, I ge, .slice bo' m2 cb'] 49 (0, 0)) :=
    (hb1.block _ (by simp)).trans (by
      have := nb_alloc (w.alloc (.cells #[I num, I dep, I rk, .bool inner, .bool sh, I ins, I tog, I wid, .slice ao n1 ca, I pu, I ge, .slice bo m1 cb] 49)) #[I num, I dep, I rk, .bool inner, .bool sh, I ins, I tog, I wid, .slice ao' n2 ca', I pu, I ge, .slice bo' m2 cb'] 49
      simpa using this)
  have hs1 : w.heap.size < w1.heap.size := (Array.getElem?_eq_some_iff.1 na).1
  have hs2 : w.heap.size + 1 < w1.heap.size := (Array.getElem?_eq_some_iff.1 nc).1
  clear hb0 hb1 H1
  obtain ⟨f1, f2⟩ := nb_facts na
  obtain ⟨g1, g2⟩ := nb_facts nc
  clear f2 g2
  go_wp2_with fail
  refine (H2.out _ hb2).mono ?_
  rintro x w2 ⟨rfl, hb3⟩
  have na2 := (hb3.block _ hs1).trans na
  have nc2 := (hb3.block _ hs2).trans nc
  have hb4 := hb2.trans (hb3.mono hb2.size)
  clear f1 g1 na nc hb3 hb2 H2
  obtain ⟨f1, _⟩ := nb_facts na2
  obtain ⟨g1, _⟩ := nb_facts nc2
  go_wp2
  go_ret
  exact ⟨rfl, hb4⟩

end Go.Proofs.Ytjnmpejcegmkhaa
