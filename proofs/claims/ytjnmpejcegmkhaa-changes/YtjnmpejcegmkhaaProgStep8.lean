/- Contracts of the program's fetch. No statement of the seat is proved here. -/
import Derived.Test.YtjnmpejcegmkhaaPStepC
namespace Go.Proofs.Ytjnmpejcegmkhaa
open Go.RowKit

section
variable {w : World} {B : Nat} {L : PLay} {v i g : Nat} {W : World} {n : PN} {q : PP}

set_option maxHeartbeats 4000000 in
theorem fetch_no (h : PF w B L v i g W n q) (t : Nat) (ht : q.ticket = (t : Int)) (hr : (n.items.getD t (0, 0)).1 ≠ 1) :
    Calls Try.prog 135 #[.pointer (some ⟨g, i * 11, none⟩), .pointer (some ⟨L.tb, 8 + v * 21, none⟩)] W fun e w' => e = .returned (.tuple #[]) ∧ PF w B L v i g w' n q := by
  have c10 := h.pcell 10 (by omega)
  have d20 := h.ncell 20 (by omega)
  simp only [ppCells, pnCells, List.getElem?_cons_succ, List.getElem?_cons_zero] at c10 d20
  rw [ht] at c10
  obtain ⟨ao, ic, e1, i1, i2, i3, i4⟩ := h.item_at
  rw [e1] at d20
  unfold maxLen at i2 i3
  have HE : Hid (PF w B L v i g W n q) := h
  by_cases htl : t < n.items.length
  · obtain ⟨gi, rfl, l1, x2, x3, x4, x0, x1⟩ := i4 t htl
    have hg : n.items.getD t (0, 0) = n.items[t] := by simp [List.getD_eq_getElem?_getD, List.getElem?_eq_getElem htl]
    rw [hg] at hr
    have htl' : (t : Int) < (n.items.length : Int) := by omega
    clear h ht e1 i4 hg x1
    generalize (n.items[t]).1 = st0 at *
    have b1 : (st0 != 1) = true := by simp [hr]
    generalize n.items.length = il at *
    clear hr
    go_enter Try.func135, Try.ntmps135
    go_wp2_with fail
    go_quiet (fail)
    go_wp2
    exact bodyPost_ret (v := .tuple #[]) (by simp [results, Try.results135, go_sem]) rfl ⟨rfl, HE.out.below (Below.drewN' (Below.refl _ _) _)⟩
  · have htl' : (n.items.length : Int) ≤ (t : Int) := by omega
    clear h ht e1 i4 hr
    generalize n.items.length = il at *
    go_enter Try.func135, Try.ntmps135
    go_wp2_with fail
    go_quiet (fail)
    go_wp2
    exact bodyPost_ret (v := .tuple #[]) (by simp [results, Try.results135, go_sem]) rfl ⟨rfl, HE.out.below (Below.drewN' (Below.refl _ _) _)⟩

set_option maxHeartbeats 4000000 in
theorem fetch_yes (h : PF w B L v i g W n q) (t : Nat) (ht : q.ticket = (t : Int)) (htl : t < n.items.length) (hr : (n.items[t]).1 = 1) :
    Calls Try.prog 135 #[.pointer (some ⟨g, i * 11, none⟩), .pointer (some ⟨L.tb, 8 + v * 21, none⟩)] W fun e w' => e = .returned (.tuple #[]) ∧ PF w B L v i g w' { n with items := n.items.set t (2, 0) } { q with val := (n.items[t]).2, phase := 19 } := by
  have c3 := h.pcell 3 (by omega)
  have c5 := h.pcell 5 (by omega)
  have c10 := h.pcell 10 (by omega)
  have d20 := h.ncell 20 (by omega)
  simp only [ppCells, pnCells, List.getElem?_cons_succ, List.getElem?_cons_zero] at c3 c5 c10 d20
  rw [ht] at c10
  obtain ⟨ao, ic, e1, i1, i2, i3, i4⟩ := h.item_at
  rw [e1] at d20
  obtain ⟨gi, rfl, l1, x2, x3, x4, x0, x1⟩ := i4 t htl
  unfold maxLen at i2 i3
  have fz := h.fzQ
  have fn := h.fzN
  have hne := h.ne
  have HF : Hid (∀ W', Below W.heap.size W W' → (∀ k, W'.frozen? ⟨g, k, none⟩ = false) ∧ ∀ k, W'.frozen? ⟨gi, k, none⟩ = false) := by
    intro W' hb
    refine ⟨(h.below hb).fzQ, fun k => ?_⟩
    obtain ⟨ao', ic', e1', _, _, _, i4'⟩ := (h.below hb).item_at
    obtain ⟨gi', ea', _, _, _, y4, _⟩ := i4' t htl
    rw [e1, ea'] at e1'
    have : gi = gi' := by simp at e1'; exact e1'.1
    subst this
    exact y4 k
  have HE : Hid (∀ W', Below W.heap.size W W' → PF w B L v i g ((((W'.setCell ⟨g, i * 11 + 5, none⟩ (I (n.items[t]).2)).setCell ⟨gi, t * 2, none⟩ (I 2)).setCell ⟨gi, t * 2 + 1, none⟩ (I 0)).setCell ⟨g, i * 11 + 3, none⟩ (I 19)) { n with items := n.items.set t (2, 0) } { q with val := (n.items[t]).2, phase := 19 }) := by
    intro W' hb
    have s0 := (h.below hb).setQ 5 (by omega) (I (n.items[t]).2) { q with val := (n.items[t]).2 } rfl
    have s1 := s0.setI e1 t htl 0 (by omega) (I 2) (2, (n.items[t]).2) rfl
    have s2 := s1.setI (gi := gi) (cap := ic) (by show n.iv = _; rw [List.length_set]; exact e1) t (by simpa using htl) 1 (by omega) (I 0) (2, 0) (by simp only [List.getElem_set_self]; rfl)
    simp only [List.set_set] at s2
    exact s2.setQ 3 (by omega) (I 19) _ rfl
  have htl' : (t : Int) < (n.items.length : Int) := by omega
  rw [hr] at x0
  clear h ht e1 i4 hr
  generalize (n.items[t]).2 = vl0 at *
  generalize hil : n.items.length = il at *
  go_enter Try.func135, Try.ntmps135
  go_wp2_with fail
  go_quiet (fail)
  have hb : Below W.heap.size W (W.drewN nq) := Below.drewN' (Below.refl _ _) nq
  have k3 := (hb.cell (p := ⟨g, i * 11 + 3, none⟩) (cell_lt c3)).trans c3
  have k5 := (hb.cell (p := ⟨g, i * 11 + 5, none⟩) (cell_lt c3)).trans c5
  have k10 := (hb.cell (p := ⟨g, i * 11 + 10, none⟩) (cell_lt c3)).trans c10
  have k20 := (hb.cell (p := ⟨L.tb, 8 + v * 21 + 20, none⟩) (cell_lt d20)).trans d20
  have y0 := (hb.cell (p := ⟨gi, t * 2, none⟩) l1).trans x0
  have y1 := (hb.cell (p := ⟨gi, t * 2 + 1, none⟩) l1).trans x1
  have HE2 := HE.out _ hb
  replace HE2 : Hid _ := HE2
  have F := HF.out _ hb
  obtain ⟨F1, F2⟩ := F
  clear c3 c5 c10 d20 x0 x1 x4 fz fn HE HF hb l1
  generalize W.drewN nq = wq at *
  go_wp2_with fail
  go_region
  go_wp2_with fail
  go_region
  go_wp2_with fail
  go_end0
  exact ⟨rfl, HE2.out.drew.drew⟩
end

end Go.Proofs.Ytjnmpejcegmkhaa
