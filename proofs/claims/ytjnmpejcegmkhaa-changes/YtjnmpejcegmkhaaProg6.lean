/- The contract of the program's Proc. No statement of the seat is proved here. -/
import Derived.Test.YtjnmpejcegmkhaaProg2
namespace Go.Proofs.Ytjnmpejcegmkhaa
open Go.RowKit

def pprocV (L : PLay) (n : Int) : Value :=
  if 0 ≤ n ∧ n < L.procs.length then
    .tuple #[.agg #[I (L.procs.getD n.toNat zeroPP).phase, I (L.procs.getD n.toNat zeroPP).node, I (L.procs.getD n.toNat zeroPP).val], I 0]
  else .tuple #[.agg #[I 0, I 0, I 0], I 5]

theorem pp_len (p : PP) : (ppCells p).length = 11 := rfl

set_option maxHeartbeats 2000000 in
theorem pproc_c {w : World} {B : Nat} {L : PLay} (h : PRep w B L) (n : Int) :
    Calls Try.prog 41 #[.pointer (some ⟨L.tb, 0, none⟩), I n] w fun e w' => e = .returned (pprocV L n) ∧ Below w.heap.size w w' := by
  have h1 := h.pcell
  obtain ⟨ao, cap, e1, c1, c2, c3, h2⟩ := ownsRow_cells h.prow
  rw [e1] at h1
  clear e1
  have l0 := h.size
  have HV : Hid (pprocV L n = if 0 ≤ n ∧ n < L.procs.length then
    .tuple #[.agg #[I (L.procs.getD n.toNat zeroPP).phase, I (L.procs.getD n.toNat zeroPP).node, I (L.procs.getD n.toNat zeroPP).val], I 0]
  else .tuple #[.agg #[I 0, I 0, I 0], I 5]) := rfl
  generalize pprocV L n = V at *
  have hp : ∀ i, (hi : i < L.procs.length) → ∃ g, ao = some ⟨g, 0, none⟩ ∧ g < w.heap.size ∧ ∀ j, j < 11 → w.cell? ⟨g, i * 11 + j, none⟩ = (ppCells L.procs[i])[j]? := by
    intro i hi
    have key : ∀ j, j < 11 → ∃ g, ao = some ⟨g, 0, none⟩ ∧ g < w.heap.size ∧ w.cell? ⟨g, i * 11 + j, none⟩ = (ppCells L.procs[i])[j]? := by
      intro j hj
      have hlt : j < (ppCells L.procs[i]).length := hj
      obtain ⟨g, e, _, c⟩ := h2 (i * 11 + j) ((ppCells L.procs[i])[j]) (by rw [flat_at ppCells 11 pp_len L.procs i hi j hj, List.getElem?_eq_getElem hlt])
      exact ⟨g, e, cell_lt c, by rw [c, List.getElem?_eq_getElem hlt]⟩
    obtain ⟨g, rfl, hg, _⟩ := key 0 (by omega)
    refine ⟨g, rfl, hg, fun j hj => ?_⟩
    obtain ⟨g', e, _, c⟩ := key j hj
    simp at e; subst e; exact c
  clear h2
  generalize hps : L.procs = ps at *
  generalize L.tb = tb at *
  unfold maxLen at c2 c3
  clear h
  by_cases hn : 0 ≤ n ∧ n < ps.length
  · obtain ⟨i, rfl⟩ := Int.eq_ofNat_of_zero_le hn.1
    have hi : i < ps.length := by omega
    have hV := HV.out
    rw [if_pos hn] at hV
    simp only [Int.toNat_natCast, List.getD_eq_getElem?_getD, List.getElem?_eq_getElem hi, Option.getD_some] at hV
    subst hV
    obtain ⟨g, rfl, l1, F⟩ := hp i hi
    have p0 := F 0 (by omega); have p1 := F 1 (by omega); have p2 := F 2 (by omega); have p3 := F 3 (by omega); have p4 := F 4 (by omega); have p5 := F 5 (by omega)
    have p6 := F 6 (by omega); have p7 := F 7 (by omega); have p8 := F 8 (by omega); have p9 := F 9 (by omega); have p10 := F 10 (by omega)
    clear HV hn hp F
    generalize ps[i] = p at *
    simp only [ppCells, Nat.add_zero, List.getElem?_cons_succ, List.getElem?_cons_zero] at p0 p1 p2 p3 p4 p5 p6 p7 p8 p9 p10
    go_enter Try.func41, Try.ntmps41
    go_wp2
    exact bodyPost_ret (v := .tuple #[.agg #[I p.phase, I p.node, I p.val], I 0]) (by simp [results, Try.results41, go_sem]) rfl ⟨rfl, ((Below.refl _ _).alloc (Nat.le_refl _) _).alloc (by simp) _⟩
  · have hV := HV.out
    rw [if_neg hn] at hV
    subst hV
    clear HV hp
    by_cases h0 : n < 0
    · clear hn
      go_enter Try.func41, Try.ntmps41
      go_wp2
      exact bodyPost_ret (v := .tuple #[.agg #[I 0, I 0, I 0], I 5]) (by simp [results, Try.results41, go_sem]) rfl ⟨rfl, (Below.refl _ _).alloc (Nat.le_refl _) _⟩
    · have hge : (ps.length : Int) ≤ n := by omega
      clear hn
      have hd : decide (n < 0) = false := by simpa using h0
      go_enter Try.func41, Try.ntmps41
      go_wp2
      exact bodyPost_ret (v := .tuple #[.agg #[I 0, I 0, I 0], I 5]) (by simp [results, Try.results41, go_sem]) rfl ⟨rfl, (Below.refl _ _).alloc (Nat.le_refl _) _⟩

end Go.Proofs.Ytjnmpejcegmkhaa
