/- Contracts of the program's hasRoom, store, fetch. No statement of the seat is proved here. -/
import Derived.Test.YtjnmpejcegmkhaaPStepC
namespace Go.Proofs.Ytjnmpejcegmkhaa
open Go.RowKit

/-- Whether there is room under the ticket t, R tickets behind. -/
def roomyP (its : List (Int × Int)) (t R : Int) : Bool := decide (t - R < 0) || (decide (t - R < its.length) && decide ((its.getD (t - R).toNat (0, 0)).1 = 2))

section
variable {w : World} {B : Nat} {L : PLay} {v i g : Nat} {W : World} {n : PN} {q : PP}

set_option maxHeartbeats 2000000 in
theorem hasRoom_c (h : PF w B L v i g W n q) (t R : Int) (ht0 : 0 ≤ t) (ht9 : t ≤ 1000000000000) (hR0 : 0 ≤ R) (hR9 : R ≤ 1000) :
    Calls Try.prog 142 #[.pointer (some ⟨L.tb, 8 + v * 21, none⟩), I t, I R] W fun e w' => e = .returned (.bool (roomyP n.items t R)) ∧ w' = W := by
  have d20 := h.ncell 20 (by omega)
  simp only [pnCells, List.getElem?_cons_succ, List.getElem?_cons_zero] at d20
  obtain ⟨ao, ic, e1, i1, i2, i3, i4⟩ := h.item_at
  rw [e1] at d20
  clear h
  unfold maxLen at i2 i3
  by_cases hneg : t - R < 0
  · have HE : Hid (roomyP n.items t R = true) := by show _ = _; simp [roomyP, hneg]
    rw [HE.out]
    clear HE i4 e1
    go_enter Try.func142, Try.ntmps142
    go_wp2
    go_ret
    exact ⟨rfl, rfl⟩
  · obtain ⟨k, hk⟩ := Int.eq_ofNat_of_zero_le (by omega : 0 ≤ t - R)
    have hd : decide (t - R < 0) = false := by simp; omega
    by_cases hlt : k < n.items.length
    · obtain ⟨gi, rfl, l1, x2, x3, x4, x0, x1⟩ := i4 k hlt
      have hg : n.items.getD k (0, 0) = n.items[k] := by simp [List.getD_eq_getElem?_getD, List.getElem?_eq_getElem hlt]
      have HE : Hid (roomyP n.items t R = decide ((n.items[k]).1 = 2)) := by
        show _ = _
        unfold roomyP
        rw [hd, hk, Int.toNat_natCast, hg, decide_eq_true (by omega : (k : Int) < (n.items.length : Int))]
        simp
      rw [HE.out]
      clear HE i4 e1 hg x1 x2 x3 x4
      generalize (n.items[k]).1 = st at *
      generalize n.items.length = il at *
      have hkl : (k : Int) < (il : Int) := by omega
      have hk0 : 0 ≤ t - R := by omega
      by_cases h2 : st = 2
      · have b2 : (st == 2) = true := by simp [h2]
        rw [decide_eq_true h2]
        clear h2
        go_enter Try.func142, Try.ntmps142
        go_wp2
        go_ret
        exact ⟨rfl, rfl⟩
      · have b2 : (st == 2) = false := by simp [h2]
        rw [decide_eq_false h2]
        clear h2
        go_enter Try.func142, Try.ntmps142
        go_wp2
        go_ret
        exact ⟨rfl, rfl⟩
    · have HE : Hid (roomyP n.items t R = false) := by
        show _ = _
        unfold roomyP
        rw [hd, hk, decide_eq_false (by omega : ¬ (k : Int) < (n.items.length : Int))]
        simp
      rw [HE.out]
      clear HE i4 e1
      generalize n.items.length = il at *
      have hkl : decide ((k : Int) < (il : Int)) = false := by simp; omega
      go_enter Try.func142, Try.ntmps142
      go_wp2
      go_ret
      exact ⟨rfl, rfl⟩

set_option maxHeartbeats 4000000 in
theorem store_no (h : PF w B L v i g W n q) (t : Nat) (ht : q.ticket = (t : Int)) (htl : t < n.items.length) (ht9 : t ≤ 1000000000000) (R : Int) (hR0 : 0 ≤ R) (hR9 : R ≤ 1000) (hr : roomyP n.items t R = false) :
    Calls Try.prog 134 #[.pointer (some ⟨g, i * 11, none⟩), .pointer (some ⟨L.tb, 8 + v * 21, none⟩), I R] W fun e w' => e = .returned (.tuple #[]) ∧ PF w B L v i g w' n q := by
  have c10 := h.pcell 10 (by omega)
  have d20 := h.ncell 20 (by omega)
  simp only [ppCells, pnCells, List.getElem?_cons_succ, List.getElem?_cons_zero] at c10 d20
  rw [ht] at c10
  obtain ⟨ao, ic, e1, i1, i2, i3, i4⟩ := h.item_at
  rw [e1] at d20
  clear i4
  unfold maxLen at i2 i3
  have hh := fun W' (hb : Below W.heap.size W W') => hasRoom_c (h.below hb) t R (by omega) (by omega) hR0 hR9
  rw [hr] at hh
  replace hh : Hid _ := hh
  have HE : Hid (∀ W', Below W.heap.size W W' → PF w B L v i g W' n q) := fun W' hb => h.below hb
  have htl' : (t : Int) < (n.items.length : Int) := by omega
  clear h ht e1 hr
  generalize n.items.length = il at *
  go_enter Try.func134, Try.ntmps134
  go_wp2_with fail
  go_quiet ((go_at_call 142; exact Calls.quiet_of_same (hh.out _ (by first | exact (Below.refl _ _).drew | exact Below.drewN' (Below.refl _ _) _ | exact Below.refl _ _))))
  go_wp2
  exact bodyPost_ret (v := .tuple #[]) (by simp [results, Try.results134, go_sem]) rfl ⟨rfl, HE.out _ (Below.drewN' (Below.refl _ _) _)⟩

set_option maxHeartbeats 4000000 in
theorem store_yes (h : PF w B L v i g W n q) (t : Nat) (ht : q.ticket = (t : Int)) (htl : t < n.items.length) (ht9 : t ≤ 1000000000000) (R : Int) (hR0 : 0 ≤ R) (hR9 : R ≤ 1000) (hr : roomyP n.items t R = true) :
    Calls Try.prog 134 #[.pointer (some ⟨g, i * 11, none⟩), .pointer (some ⟨L.tb, 8 + v * 21, none⟩), I R] W fun e w' => e = .returned (.tuple #[]) ∧ PF w B L v i g w' { n with items := n.items.set t (1, q.oval) } { q with phase := 19 } := by
  have c10 := h.pcell 10 (by omega)
  have d20 := h.ncell 20 (by omega)
  simp only [ppCells, pnCells, List.getElem?_cons_succ, List.getElem?_cons_zero] at c10 d20
  rw [ht] at c10
  obtain ⟨ao, ic, e1, i1, i2, i3, i4⟩ := h.item_at
  rw [e1] at d20
  obtain ⟨gi, rfl, l1, x2, x3, x4, x0, x1⟩ := i4 t htl
  clear i4
  unfold maxLen at i2 i3
  have hh := fun W' (hb : Below W.heap.size W W') => hasRoom_c (h.below hb) t R (by omega) (by omega) hR0 hR9
  rw [hr] at hh
  replace hh : Hid _ := hh
  have HE : Hid (∀ W', Below W.heap.size W W' → PF w B L v i g (((W'.setCell ⟨gi, t * 2, none⟩ (I 1)).setCell ⟨gi, t * 2 + 1, none⟩ (I q.oval)).setCell ⟨g, i * 11 + 3, none⟩ (I 19)) { n with items := n.items.set t (1, q.oval) } { q with phase := 19 }) := fun W' hb => by
    have s1 := (h.below hb).setI e1 t htl 0 (by omega) (I 1) (1, (n.items[t]).2) rfl
    have s2 := s1.setI (gi := gi) (cap := ic) (by show n.iv = _; rw [List.length_set]; exact e1) t (by simpa using htl) 1 (by omega) (I q.oval) (1, q.oval) (by simp only [List.getElem_set_self]; rfl)
    simp only [List.set_set] at s2
    exact s2.setQ 3 (by omega) (I 19) _ rfl
  have HF : Hid (∀ W', Below W.heap.size W W' → (W'.cell? ⟨g, i * 11 + 1, none⟩ = some (I q.oval) ∧ W'.cell? ⟨g, i * 11 + 3, none⟩ = some (I q.phase) ∧ W'.cell? ⟨g, i * 11 + 10, none⟩ = some (I t) ∧ (∀ k, W'.frozen? ⟨g, k, none⟩ = false)) ∧ W'.cell? ⟨L.tb, 8 + v * 21 + 20, none⟩ = some (.slice (some ⟨gi, 0, none⟩) n.items.length ic) ∧ W'.cell? ⟨gi, t * 2, none⟩ = some (I (n.items[t]).1) ∧ W'.cell? ⟨gi, t * 2 + 1, none⟩ = some (I (n.items[t]).2) ∧ ∀ k, W'.frozen? ⟨gi, k, none⟩ = false) := by
    intro W' hb
    have h' := h.below hb
    obtain ⟨ao', ic', e1', _, _, _, i4'⟩ := h'.item_at
    obtain ⟨gi', ea', _, _, _, y4, y0, y1⟩ := i4' t htl
    rw [e1, ea'] at e1'
    have : gi = gi' := by simp at e1'; exact e1'.1
    subst this
    refine ⟨⟨h'.pcell 1 (by omega), h'.pcell 3 (by omega), ?_, h'.fzQ⟩, ?_, y0, y1, y4⟩
    · rw [← ht]; exact h'.pcell 10 (by omega)
    · rw [← e1]; exact h'.ncell 20 (by omega)
  have htl' : (t : Int) < (n.items.length : Int) := by omega
  generalize (n.items[t]).1 = st0 at *
  generalize (n.items[t]).2 = vl0 at *
  clear h ht e1 hr
  generalize hil : n.items.length = il at *
  go_enter Try.func134, Try.ntmps134
  go_wp2_with fail
  go_quiet ((go_at_call 142; exact Calls.quiet_of_same (hh.out _ (by first | exact (Below.refl _ _).drew | exact Below.drewN' (Below.refl _ _) _ | exact Below.refl _ _))))
  have hb : Below W.heap.size W (W.drewN nq) := Below.drewN' (Below.refl _ _) nq
  obtain ⟨⟨a1, a2, a3, a4⟩, a5, a6, a7, a8⟩ := HF.out _ hb
  have HE2 := HE.out _ hb
  replace HE2 : Hid _ := HE2
  clear c10 d20 x0 x1 x4 hh HF HE hb
  generalize W.drewN nq = wq at *
  go_wp2_with fail
  go_region
  go_wp2_with fail
  go_end0
  exact ⟨rfl, HE2.out.drew⟩

end

end Go.Proofs.Ytjnmpejcegmkhaa
