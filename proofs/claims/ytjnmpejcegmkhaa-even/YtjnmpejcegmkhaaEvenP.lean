/- A still tree is even (P12), of the document's tree alone. No statement of the seat is proved here. -/
import Derived.Test.YtjnmpejcegmkhaaXOk
namespace Go.Proofs.Ytjnmpejcegmkhaa
open Go.RowKit

def undB (u w : Nat) : Bool := decide (climb 6 w u = u)
def subS (L : Lay) (u : Nat) : Int := sumN (fun w => if undB u w = true then balH (L.hist w) else 0) L.past.length

theorem und_facts : ∀ u : Fin 32, ∀ w : Fin 32, 1 ≤ u.1 → (undB u.1 w.1 = (decide (w.1 = u.1) || (undB (2 * u.1) w.1 || undB (2 * u.1 + 1) w.1))) ∧ ¬ (undB (2 * u.1) w.1 = true ∧ undB (2 * u.1 + 1) w.1 = true) ∧ undB (2 * u.1) u.1 = false ∧ undB (2 * u.1 + 1) u.1 = false := by decide +kernel
theorem und_one : ∀ w : Fin 32, 1 ≤ w.1 → undB 1 w.1 = true := by decide +kernel
theorem und_half : ∀ u : Fin 32, ∀ w : Fin 32, 1 ≤ u.1 → w.1 ≠ u.1 → undB u.1 w.1 = true → undB u.1 (w.1 / 2) = true ∧ 2 ≤ w.1 := by decide +kernel
theorem rank_kid : ∀ u : Fin 32, 1 ≤ u.1 → rank (2 * u.1) = rank u.1 ∧ rank (2 * u.1 + 1) = rank u.1 + 2 ^ Nat.log2 u.1 ∧ Nat.log2 (2 * u.1) = Nat.log2 u.1 + 1 ∧ Nat.log2 (2 * u.1 + 1) = Nat.log2 u.1 + 1 ∧ rank 1 = 0 ∧ Nat.log2 1 = 0 := by decide +kernel

theorem sumN_add (f g : Nat → Int) : ∀ n, sumN (fun w => f w + g w) n = sumN f n + sumN g n
  | 0 => rfl
  | n + 1 => by simp only [sumN]; rw [sumN_add f g n]; omega
theorem sumN_sub (f g : Nat → Int) : ∀ n, sumN (fun w => f w - g w) n = sumN f n - sumN g n
  | 0 => rfl
  | n + 1 => by simp only [sumN]; rw [sumN_sub f g n]; omega
theorem sumN_at (x : Int) (u : Nat) : ∀ n, u < n → sumN (fun w => if w = u then x else 0) n = x
  | 0, h => by omega
  | n + 1, h => by
    simp only [sumN]
    by_cases e : n = u
    · subst e
      rw [if_pos rfl, sumN_zero _ _ fun w hw => by rw [if_neg (by omega)]]
      omega
    · rw [if_neg e, sumN_at x u n (by omega)]
      omega

section
variable {c : Conf} {L : Lay} {P : PLay}

theorem sub_split (hN : L.past.length ≤ 32) {u : Nat} (h1 : 1 ≤ u) (hu : 2 * u + 1 < L.past.length) : subS L u = balH (L.hist u) + (subS L (2 * u) + subS L (2 * u + 1)) ∧ sumN (fun w => side u w * balH (L.hist w)) L.past.length = subS L (2 * u) - subS L (2 * u + 1) := by
  unfold subS
  refine ⟨?_, ?_⟩
  · rw [← sumN_add, ← sumN_at (balH (L.hist u)) u L.past.length (by omega), ← sumN_add]
    refine sumN_congr _ _ _ fun w hw => ?_
    obtain ⟨a, b, d, e⟩ := und_facts ⟨u, by omega⟩ ⟨w, by omega⟩ h1
    simp only at a b d e
    rw [a]
    by_cases ew : w = u
    · subst ew
      simp [d, e]
    · simp only [ew, decide_false, Bool.false_or, if_false]
      cases x : undB (2 * u) w <;> cases y : undB (2 * u + 1) w
      · simp
      · simp
      · simp
      · exact absurd ⟨x, y⟩ b
  · rw [← sumN_sub]
    refine sumN_congr _ _ _ fun w hw => ?_
    obtain ⟨_, b, _, _⟩ := und_facts ⟨u, by omega⟩ ⟨w, by omega⟩ h1
    simp only at b
    have es : side u w = if undB (2 * u) w = true then 1 else if undB (2 * u + 1) w = true then -1 else 0 := by
      unfold side undB
      simp only [decide_eq_true_eq]
    rw [es]
    cases x : undB (2 * u) w <;> cases y : undB (2 * u + 1) w
    · simp
    · simp
    · simp
    · exact absurd ⟨x, y⟩ b

theorem sub_leaf (h : CRel c L P) {u : Nat} (h1 : 1 ≤ u) (hu : u < L.past.length) (hf : formH (L.hist u) = 2) : subS L u = balH (L.hist u) := by
  have hN := h.rel.lenle
  have key : ∀ w, w < L.past.length → w ≠ u → undB u w = true → formH (L.hist w) = 3 := by
    intro w
    induction w using Nat.strongRecOn with
    | _ w ih =>
      intro hw hne hun
      obtain ⟨a, b⟩ := und_half ⟨u, by omega⟩ ⟨w, by omega⟩ h1 hne hun
      simp only at a b
      by_cases e3 : formH (L.hist w) = 3
      · exact e3
      · have hp := h.ck.ci.par w b hw e3
        by_cases eu : w / 2 = u
        · rw [eu] at hp
          omega
        · have := ih (w / 2) (by omega) (by omega) eu a
          omega
  unfold subS
  rw [← sumN_at (balH (L.hist u)) u L.past.length hu]
  refine sumN_congr _ _ _ fun w hw => ?_
  by_cases ew : w = u
  · subst ew
    have : undB w w = true := by
      have := (und_facts ⟨w, by omega⟩ ⟨w, by omega⟩ h1).1
      simp only at this
      rw [this]
      simp
    rw [if_pos this, if_pos rfl]
  · rw [if_neg ew]
    cases x : undB u w
    · simp
    · simp only [if_true]
      unfold balH
      rw [key w hw ew x]
      simp

/-- Nobody is between the root's door and a leaf. -/
def Still (L : Lay) : Prop := ∀ i, (hi : i < L.procs.length) → arrived (toPP (L.procs[i]).2) ∨ ((L.procs[i]).2.node = 1 ∧ ((L.procs[i]).2.phase = 0 ∨ (L.procs[i]).2.phase = 15))

theorem side_one : ∀ u : Fin 32, 1 ≤ u.1 → side u.1 1 = 0 := by decide +kernel

theorem still_even (h : CRel c L P) (hs : Still L) {u : Nat} (h1 : 1 ≤ u) (hu : u < L.past.length) (hf : formH (L.hist u) = 1) : subS L (2 * u) - subS L (2 * u + 1) = togH (L.hist u) ∧ subS L u = subS L (2 * u) + subS L (2 * u + 1) := by
  have hN := h.rel.lenle
  have hk := (h.rel.kids u h1 hu hf).1
  have e := h.ck.ci.even u h1 hu hf
  obtain ⟨a, b⟩ := sub_split (L := L) (by omega) h1 hk
  unfold evenS at e
  have ez : sumP (eP L.procs u) L.procs = 0 := by
    refine sumP_zero _ _ fun i hi => ?_
    have hm : metB (L.procs[i]).2 = false := by
      unfold metB
      have : ¬ (L.procs[i]).2.phase = 6 ∧ ¬ (L.procs[i]).2.phase = 7 := by
        rcases hs i hi with x | x
        · unfold arrived at x
          have x' : (L.procs[i]).2.phase = 13 ∨ (L.procs[i]).2.phase = 14 ∨ (L.procs[i]).2.phase = 19 ∨ (L.procs[i]).2.phase = 20 := x
          omega
        · omega
      simp [this]
    unfold eP wcP
    rw [hm]
    simp only [Bool.false_eq_true, false_and, and_false, if_false, Int.add_zero]
    rcases hs i hi with x | ⟨x, y⟩
    · have x' : (L.procs[i]).2.phase = 13 ∨ (L.procs[i]).2.phase = 14 ∨ (L.procs[i]).2.phase = 19 ∨ (L.procs[i]).2.phase = 20 := x
      have : tokP L.procs (L.procs[i]).2 = 0 := by unfold tokP; rw [if_neg (by omega)]
      rw [this]
      simp
    · rw [x]
      have := side_one ⟨u, by omega⟩ h1
      simp only at this
      show side u 1 * _ = 0
      rw [this]
      simp
  rw [ez, b] at e
  have hb : balH (L.hist u) = 0 := by unfold balH; rw [hf]; simp
  exact ⟨by omega, by omega⟩

/-- What lies in each part of a still tree is its share. -/
theorem still_share (h : CRel c L P) (hs : Still L) : ∀ u, 1 ≤ u → u < L.past.length → formH (L.hist u) ≠ 3 → (subS L u - 1) * 2 ^ Nat.log2 u < subS L 1 - rank u ∧ subS L 1 - rank u ≤ subS L u * 2 ^ Nat.log2 u := by
  have hN := h.rel.lenle
  intro u
  induction u using Nat.strongRecOn with
  | _ u ih =>
    intro h1 hu hf
    by_cases e1 : u = 1
    · subst e1
      obtain ⟨_, _, _, _, r1, l1⟩ := rank_kid ⟨1, by omega⟩ (by show 1 ≤ 1; omega)
      rw [r1, l1]
      simp
      omega
    · have hq := h.ck.ci.par u (by omega) hu hf
      obtain ⟨ia, ib⟩ := ih (u / 2) (by omega) (by omega) (by omega) (by omega)
      obtain ⟨sa, sb⟩ := still_even h hs (u := u / 2) (by omega) (by omega) hq
      obtain ⟨k1, k2, k3, k4, _, _⟩ := rank_kid ⟨u / 2, by omega⟩ (by show 1 ≤ u / 2; omega)
      simp only at k1 k2 k3 k4
      have ht : togH (L.hist (u / 2)) = 0 ∨ togH (L.hist (u / 2)) = 1 := by unfold togH; omega
      have hl := log2_32 ⟨u / 2, by omega⟩
      simp only at hl
      generalize subS L 1 = T at *
      generalize togH (L.hist (u / 2)) = tg at *
      by_cases ev : u % 2 = 0
      · have eu : u = 2 * (u / 2) := by omega
        rw [eu, k1, k3, ← eu]
        have es : subS L (2 * (u / 2)) = subS L u := by rw [← eu]
        rw [es] at sa sb
        generalize subS L (u / 2) = sq at *
        generalize subS L u = su at *
        generalize subS L (2 * (u / 2) + 1) = s1 at *
        generalize rank (u / 2) = rk at *
        generalize Nat.log2 (u / 2) = d at *
        have : d = 0 ∨ d = 1 ∨ d = 2 ∨ d = 3 ∨ d = 4 := by omega
        rcases this with rfl | rfl | rfl | rfl | rfl <;> simp at ia ib ⊢ <;> omega
      · have eu : u = 2 * (u / 2) + 1 := by omega
        rw [eu, k2, k4, ← eu]
        have es : subS L (2 * (u / 2) + 1) = subS L u := by rw [← eu]
        rw [es] at sa sb
        generalize subS L (u / 2) = sq at *
        generalize subS L u = su at *
        generalize subS L (2 * (u / 2)) = s1 at *
        generalize rank (u / 2) = rk at *
        generalize Nat.log2 (u / 2) = d at *
        have : d = 0 ∨ d = 1 ∨ d = 2 ∨ d = 3 ∨ d = 4 := by omega
        rcases this with rfl | rfl | rfl | rfl | rfl <;> simp at ia ib ⊢ <;> omega

theorem sub_all (h : CRel c L P) : subS L 1 = balS L := by
  have hN := h.rel.lenle
  unfold subS balS
  refine sumN_congr _ _ _ fun w hw => ?_
  by_cases e : w = 0
  · subst e
    have : balH (L.hist 0) = 0 := by unfold balH; rw [h.rel.hist0]; simp
    rw [this]
    simp
  · rw [if_pos (und_one ⟨w, by omega⟩ (by show 1 ≤ w; omega))]

end

end Go.Proofs.Ytjnmpejcegmkhaa
