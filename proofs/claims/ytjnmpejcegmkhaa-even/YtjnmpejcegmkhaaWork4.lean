/- How long a process may still be on its way (P15): rounds. No statement of the seat is proved here. -/
import Derived.Test.YtjnmpejcegmkhaaWork3
namespace Go.Proofs.Ytjnmpejcegmkhaa
open Go.RowKit

theorem PM.into {v : Nat} {a b nd : Int} (h : PM v a b nd) (hb : 16 ≤ b ∧ b ≤ 18) : 15 ≤ a ∧ a ≤ 18 := by
  cases h <;> omega

/-- In the midst of a round that began with l0; dn: who has had its turn. -/
structure RI (c : Conf) (l0 l : List PP) (dn : List Nat) : Prop where
  len : l.length = l0.length
  keep : ∀ i, (hi : i < l.length) → (h0 : i < l0.length) → arrived l0[i] → arrived l[i]
  r1 : ∀ i, (hi : i < l.length) → (h0 : i < l0.length) → arrived l[i] ∨ phi c l l[i] ≤ phi c l0 l0[i]
  r2 : ∀ x, x ∈ dn → (hx : x < l.length) → 16 ≤ (l[x]).phase → (l[x]).phase ≤ 18 → ∀ i, (hi : i < l.length) → (h0 : i < l0.length) → i ≠ x → arrived l[i] ∨ phi c l l[i] + 1 ≤ phi c l0 l0[i]
  r3 : ∀ i, i ∈ dn → (hi : i < l.length) → (h0 : i < l0.length) → arrived l[i] ∨ phi c l l[i] + 1 ≤ phi c l0 l0[i] ∨ ((l[i]).phase ≤ 2 ∧ ∃ x, ∃ hx : x < l.length, x ∉ dn ∧ inHold (l[i]).node l[x] = true)

theorem RI.start (c : Conf) (l : List PP) : RI c l l [] :=
  ⟨rfl, fun _ _ _ h => h, fun _ _ _ => Or.inr (Int.le_refl _), fun x hx => by simp at hx, fun i hi => by simp at hi⟩

theorem RI.skip {c : Conf} {l0 l : List PP} {dn : List Nat} (h : RI c l0 l dn) (j : Nat) (hj : j < l.length) (h20 : (l[j]).phase = 20) : RI c l0 l (j :: dn) := by
  refine ⟨h.len, h.keep, h.r1, fun x hx hxl a b i hi h0 hne => ?_, fun i hi hil h0 => ?_⟩
  · rcases List.mem_cons.1 hx with e | e
    · subst e; omega
    · exact h.r2 x e hxl a b i hi h0 hne
  · rcases List.mem_cons.1 hi with e | e
    · subst e
      exact Or.inl (Or.inr (Or.inr (Or.inr h20)))
    · rcases h.r3 i e hil h0 with a | a | ⟨a, x, hx, b, d⟩
      · exact Or.inl a
      · exact Or.inr (Or.inl a)
      · refine Or.inr (Or.inr ⟨a, x, hx, fun hm => ?_, d⟩)
        rcases List.mem_cons.1 hm with e' | e'
        · subst e'
          have := (inHold_iff _ _).1 d
          omega
        · exact b e'

theorem RI.step {c : Conf} {l0 l : List PP} {dn : List Nat} (h : RI c l0 l dn) {j v : Nat} {q q' : PP} (hs : SQ c l j v q q') : RI c l0 (l.set j q') (j :: dn) := by
  have hj := hs.hj
  have hq := hs.eq
  have hpm := hs.pm
  have hpl := hpm.live
  have hl := h.len
  have arr : arrived q → arrived q' := by
    intro a
    have : q.phase = 13 ∨ q.phase = 14 ∨ q.phase = 19 := by unfold arrived at a; omega
    exact hpm.arr this
  have hat := hs.at'
  have get : ∀ i, (hi : i < l.length) → (hi' : i < (l.set j q').length) → i ≠ j → (l.set j q')[i] = l[i] := fun i hi hi' e => List.getElem_set_ne (Ne.symm e) _
  have self : ∀ hi' : j < (l.set j q').length, (l.set j q')[j] = q' := fun _ => List.getElem_set_self _
  have own := fun (na : ¬ arrived q) => hs.own na
  have r1j : ∀ h0 : j < l0.length, arrived q ∨ phi c l q ≤ phi c l0 l0[j] := by
    intro h0
    have := h.r1 j hj h0
    rw [hq] at this
    exact this
  refine ⟨by simpa using hl, fun i hi' h0 ha => ?_, fun i hi' h0 => ?_, fun x hx hx' a b i hi' h0 hne => ?_, fun i him hi' h0 => ?_⟩
  · have hi : i < l.length := by simpa using hi'
    have hk := h.keep i hi h0 ha
    by_cases e : i = j
    · subst e
      rw [self]
      rw [hq] at hk
      exact arr hk
    · rw [get i hi hi' e]
      exact hk
  · have hi : i < l.length := by simpa using hi'
    by_cases e : i = j
    · subst e
      rw [self]
      by_cases na : arrived q
      · exact Or.inl (arr na)
      · rcases r1j h0 with x | x
        · exact absurd x na
        · exact Or.inr (Int.le_trans (own na).1 x)
    · rw [get i hi hi' e]
      rcases h.r1 i hi h0 with x | x
      · exact Or.inl x
      · exact Or.inr (Int.le_trans (hs.other i hi e).1 x)
  · have hi : i < l.length := by simpa using hi'
    have hxl : x < l.length := by simpa using hx'
    by_cases exj : x = j
    · subst exj
      rw [self] at a b
      obtain ⟨p1, p2⟩ := hpm.into ⟨a, b⟩
      rw [get i hi hi' hne]
      rcases h.r1 i hi h0 with z | z
      · exact Or.inl z
      · have := (hs.other i hi hne).2 p1 p2
        exact Or.inr (by omega)
    · have hxd : x ∈ dn := by
        rcases List.mem_cons.1 hx with e | e
        · exact absurd e exj
        · exact e
      rw [get x hxl hx' exj] at a b
      by_cases e : i = j
      · subst e
        rw [self]
        by_cases na : arrived q
        · exact Or.inl (arr na)
        · have := h.r2 x hxd hxl a b i hi h0 hne
          rw [hq] at this
          rcases this with z | z
          · exact absurd z na
          · have := (own na).1
            exact Or.inr (by omega)
      · rw [get i hi hi' e]
        rcases h.r2 x hxd hxl a b i hi h0 hne with z | z
        · exact Or.inl z
        · have := (hs.other i hi e).1
          exact Or.inr (by omega)
  · have hi : i < l.length := by simpa using hi'
    by_cases e : i = j
    · subst e
      rw [self]
      by_cases na : arrived q
      · exact Or.inl (arr na)
      · obtain ⟨o1, o2, o3⟩ := own na
        rcases r1j h0 with z | z
        · exact absurd z na
        · by_cases bl : q.phase ≤ 2 ∧ shQ v l = true
          · obtain ⟨x, hx, ex⟩ := shQ_ex bl.2
            have hh := (inHold_iff _ _).1 ex
            have hxi : x ≠ i := by
              intro e
              subst e
              rw [hq] at hh
              omega
            by_cases hxd : x ∈ dn
            · have := h.r2 x hxd hx hh.2.1 hh.2.2 i hi h0 (Ne.symm hxi)
              rw [hq] at this
              rcases this with y | y
              · exact absurd y na
              · exact Or.inr (Or.inl (by omega))
            · obtain ⟨y1, y2⟩ := o3 bl
              refine Or.inr (Or.inr ⟨y1, x, by simpa using hx, fun hm => ?_, ?_⟩)
              · rcases List.mem_cons.1 hm with e' | e'
                · exact hxi e'
                · exact hxd e'
              · rw [y2, get x hx (by simpa using hx) hxi]
                exact ex
          · have := o2 bl
            exact Or.inr (Or.inl (by omega))
    · have hid : i ∈ dn := by
        rcases List.mem_cons.1 him with e' | e'
        · exact absurd e' e
        · exact e'
      rw [get i hi hi' e]
      rcases h.r3 i hid hi h0 with z | z | ⟨z, x, hx, hxd, ex⟩
      · exact Or.inl z
      · have := (hs.other i hi e).1
        exact Or.inr (Or.inl (by omega))
      · by_cases exj : x = j
        · subst exj
          have hh := (inHold_iff _ _).1 ex
          rw [hq] at hh
          rcases h.r1 i hi h0 with y | y
          · exact Or.inl y
          · have := (hs.other i hi e).2 (by omega) (by omega)
            exact Or.inr (Or.inl (by omega))
        · refine Or.inr (Or.inr ⟨z, x, by simpa using hx, fun hm => ?_, ?_⟩)
          · rcases List.mem_cons.1 hm with e' | e'
            · exact exj e'
            · exact hxd e'
          · rw [get x hx (by simpa using hx) exj]
            exact ex

theorem RI.round {c : Conf} {l0 l : List PP} {dn : List Nat} (h : RI c l0 l dn) (hall : ∀ i, (hi : i < l.length) → i ∈ dn ∨ (l[i]).phase = 20) (i : Nat) (hi : i < l.length) (h0 : i < l0.length) : arrived l[i] ∨ phi c l l[i] + 1 ≤ phi c l0 l0[i] := by
  rcases hall i hi with hd | hd
  · rcases h.r3 i hd hi h0 with z | z | ⟨_, x, hx, hxd, ex⟩
    · exact Or.inl z
    · exact Or.inr z
    · exfalso
      have hh := (inHold_iff _ _).1 ex
      rcases hall x hx with y | y
      · exact hxd y
      · omega
  · exact Or.inl (Or.inr (Or.inr (Or.inr hd)))

end Go.Proofs.Ytjnmpejcegmkhaa
