/- How long a process may still be on its way (P15): what one Step does to it. No statement of the seat is proved here. -/
import Derived.Test.YtjnmpejcegmkhaaWork
namespace Go.Proofs.Ytjnmpejcegmkhaa
open Go.RowKit

theorem hold_step {r : Int} (hr : 0 ≤ r) {v : Nat} {a b nd : Int} (hpm : PM v a b nd) (k pat pat' : Int) (ka : KP k a) (kb : KP k b) (h15 : a = 15 → b = 16 → pat' = r) (h16 : a = 16 → 0 ≤ pat) (h161 : a = 16 → b = 16 → pat' = pat - 1) :
    holdW r k b pat' ≤ holdW r k a pat ∧ (16 ≤ a → a ≤ 18 → holdW r k b pat' + 1 ≤ holdW r k a pat) ∧ (a = 15 → holdW r k b pat' + 1 ≤ holdW r k a pat) ∧ (a = 17 ∨ a = 18 → holdW r k b pat' + 4 ≤ holdW r k a pat) := by
  have kc := kb.chg
  have kw := kb.walk
  cases hpm
  case enter => simp [holdW]
  case look hb => rcases hb with rfl | rfl | rfl | rfl <;> simp [holdW] <;> omega
  case lookDown hb hn =>
    rcases hb with rfl | rfl
    · simp [holdW]
    · have hk : 3 ≤ k := Int.not_lt.1 fun h => kw h (by decide)
      simp [holdW, hk]
  case back => simp [holdW]
  case wide => simp [holdW]
  case slot hb => rcases hb with rfl | rfl | rfl <;> simp [holdW]
  case claim hb => rcases hb with rfl | rfl <;> simp [holdW]
  case wait hb => rcases hb with rfl | rfl | rfl <;> simp [holdW]
  case down ha hn =>
    have hk : ¬ 3 ≤ k := fun h => by rcases ha with rfl | rfl | rfl <;> rcases ka.chg h with x | x | x | x <;> revert x <;> decide
    rcases ha with rfl | rfl | rfl <;> simp [holdW, hk]
  case out ha => rcases ha with rfl | rfl <;> simp [holdW]
  case grow => simp [holdW]
  case width ha => rcases ha with rfl | rfl <;> simp [holdW]
  case ticket hb => rcases hb with rfl | rfl | rfl <;> simp [holdW]
  case store hb => rcases hb with rfl | rfl <;> simp [holdW]
  case fetch hb => rcases hb with rfl | rfl <;> simp [holdW]
  case shut =>
    have := h15 rfl rfl
    simp [holdW]
    omega
  case drain hb =>
    have h16' := h16 rfl
    rcases hb with rfl | rfl | rfl
    · simp [holdW]; omega
    · have := h161 rfl rfl
      simp [holdW]; omega
    · simp [holdW]; omega
  case up hv ha => rcases ha with rfl | rfl | rfl | rfl <;> simp [holdW] <;> omega
  case done hv ha => rcases ha with rfl | rfl | rfl | rfl <;> simp [holdW] <;> omega

theorem work_gate (D : Nat) (s r : Int) (sh sh' : Bool) (k ph pat : Int) (d : Nat) : work D s r sh' k ph pat d ≤ work D s r sh k ph pat d + 2 ∧ (¬ (sh = true ∧ sh' = false) → work D s r sh' k ph pat d ≤ work D s r sh k ph pat d) := by
  by_cases h0 : ph = 0
  · subst h0
    cases sh <;> cases sh' <;> simp [work] <;> omega
  · by_cases h2 : ph = 2
    · subst h2
      cases sh <;> cases sh' <;> simp [work] <;> omega
    · have e : work D s r sh' k ph pat d = work D s r sh k ph pat d := by
        unfold work
        rw [if_neg h0, if_neg h0, if_neg h2, if_neg h2]
      rw [e]
      exact ⟨by omega, fun _ => Int.le_refl _⟩

theorem toPPs_setP_get {i : Nat} {l : List PP} {x y : PP} (hi : i < l.length) (h : l.set i x = l.set i y) : x = y := by
  have := congrArg (fun z => z[i]?) h
  simpa [hi] using this
theorem shutL_inc (L : Lay) (i : Nat) (hi : i < L.procs.length) (u : Int) : shutL u (L.setP i (incPr (L.procs[i]).2)).procs = shutL u L.procs := by
  refine shutL_set u L.procs i hi _ ?_
  rfl
theorem insideL_inc (L : Lay) (i : Nat) (hi : i < L.procs.length) (u : Nat) : insideL u (L.setP i (incPr (L.procs[i]).2)).procs = insideL u L.procs := by
  have := insideL_set u L.procs i hi ((L.procs.getD i (0, incPr (L.procs[i]).2)).1, incPr (L.procs[i]).2)
  have e : holdsP u (incPr (L.procs[i]).2) = holdsP u (L.procs[i]).2 := rfl
  rw [e] at this
  show insideL u (L.procs.set i _) = _
  omega

section
variable {c : Conf} {L : Lay} {P : PLay} {i v : Nat} {p : Pr} {n : PN}

structure Facts (c : Conf) (sh : Bool) (p p' : Pr) : Prop where
  look : p.phase = 1 → (p'.phase = 2 ↔ sh = true)
  wait : p.phase = 6 → p'.phase = 6 → p'.pat = p.pat - 1 ∧ 0 < p.pat
  claim : p.phase = 5 → p'.phase = 6 → p'.pat = c.spin
  shut : p.phase = 15 → p'.phase = 16 → p'.pat = c.drain
  drain : p.phase = 16 → p'.phase = 16 → p'.pat = p.pat - 1 ∧ 0 < p.pat

theorem Here.facts (h : Here c L P i v p n) (ck : CK c L P) (draw : Int) : ∃ p', Went L i v p p' (lstep L i draw) ∧ Facts c (shutL v L.procs) p p' := by
  obtain ⟨p', hw⟩ := h.went ck draw
  refine ⟨p', hw, ?_⟩
  have hi := h.hi
  have hcL := h.rel.cL
  have key : p.phase ≠ 8 ∧ p.phase ≠ 9 ∧ p.phase ≠ 10 ∧ p.phase ≠ 11 ∧ p.phase ≠ 12 ∧ p.phase ≠ 13 ∧ p.phase ≠ 14 ∧ p.phase ≠ 17 → toPP p' = toPP (lmove (L.setP i (incPr p)) v (incPr p) draw) := by
    rintro ⟨h1, h2, h3, h4, h5, h6, h7, h8⟩
    have el : lstep L i draw = (L.setP i (incPr p)).setP i (lmove (L.setP i (incPr p)) v (incPr p) draw) := by
      rw [h.lat draw, h.lget]
      simp only [h1, h2, h3, h4, h5, h6, h7, h8, if_false]
    have e2 : ∀ q : Pr, toPPs ((L.setP i (incPr p)).setP i q).procs = (toPPs L.procs).set i (toPP q) := by
      intro q
      rw [toPPs_setP, toPPs_setP, List.set_set]
    have e := hw.procs
    rw [el, e2] at e
    exact (toPPs_setP_get (by rw [toPPs_len]; exact hi) e).symm
  have hsh : shutL (v : Int) (L.setP i (incPr p)).procs = shutL v L.procs := by
    have := shutL_inc L i hi v
    rw [h.ep] at this
    exact this
  have fld : ∀ q : Pr, toPP p' = toPP q → p'.phase = q.phase ∧ p'.pat = q.pat := by
    intro q e
    unfold toPP at e
    simp only [PP.mk.injEq] at e
    exact ⟨e.2.2.2.1, e.2.2.2.2.2.2.2.2.2.1⟩
  refine ⟨fun e1 => ?_, fun e1 e2 => ?_, fun e1 e2 => ?_, fun e1 e2 => ?_, fun e1 e2 => ?_⟩
  · obtain ⟨a, _⟩ := fld _ (key (by omega))
    rw [a]
    unfold lmove
    rw [if_neg (show ¬ (incPr p).phase = 0 by show ¬ p.phase = 0; omega), if_pos (show (incPr p).phase = 1 from e1), hsh]
    cases hs : shutL (v : Int) L.procs
    · simp only [Bool.false_eq_true, if_false, iff_false]
      split
      · show ¬ (if _ then (3 : Int) else 12) = 2
        split <;> decide
      · split
        · show ¬ (if _ then (15 : Int) else 0) = 2
          split <;> decide
        · show ¬ (19 : Int) = 2
          decide
    · simp
  · obtain ⟨a, b⟩ := fld _ (key (by omega))
    rw [a] at e2
    rw [b]
    unfold lmove at e2 ⊢
    have e : (incPr p).phase = 6 := e1
    rw [if_neg (by omega), if_neg (by omega), if_neg (by omega), if_neg (by omega), if_neg (by omega), if_neg (by omega), if_pos e] at e2 ⊢
    unfold waitPr at e2 ⊢
    split at e2
    · exact absurd e2 (by show ¬ (7 : Int) = 6; decide)
    · rename_i hm
      rw [if_neg hm]
      split at e2
      · rename_i hp
        rw [if_pos hp]
        exact ⟨rfl, hp⟩
      · exact absurd e2 (by show ¬ (10 : Int) = 6; decide)
  · obtain ⟨a, b⟩ := fld _ (key (by omega))
    rw [a] at e2
    rw [b]
    unfold lmove at e2 ⊢
    have e : (incPr p).phase = 5 := e1
    rw [if_neg (by omega), if_neg (by omega), if_neg (by omega), if_neg (by omega), if_neg (by omega), if_pos e] at e2 ⊢
    split at e2
    · rename_i hm
      rw [if_pos hm]
      show L.c.spin = c.spin
      rw [hcL]
    · exact absurd e2 (by show ¬ (9 : Int) = 6; decide)
  · obtain ⟨a, b⟩ := fld _ (key (by omega))
    rw [a] at e2
    rw [b]
    unfold lmove at e2 ⊢
    have e : (incPr p).phase = 15 := e1
    rw [if_neg (by omega), if_neg (by omega), if_neg (by omega), if_neg (by omega), if_neg (by omega), if_neg (by omega), if_neg (by omega), if_neg (by omega), if_pos e] at e2 ⊢
    unfold shutCh at e2 ⊢
    split at e2
    · exfalso
      revert e2
      unfold upPr
      simp only
      split <;> decide
    · rename_i hm
      rw [if_neg hm]
      show L.c.drain = c.drain
      rw [hcL]
  · obtain ⟨a, b⟩ := fld _ (key (by omega))
    rw [a] at e2
    rw [b]
    unfold lmove at e2 ⊢
    have e : (incPr p).phase = 16 := e1
    rw [if_neg (by omega), if_neg (by omega), if_neg (by omega), if_neg (by omega), if_neg (by omega), if_neg (by omega), if_neg (by omega), if_neg (by omega), if_neg (by omega), if_pos e] at e2 ⊢
    unfold drainCh at e2 ⊢
    split at e2
    · exact absurd e2 (by show ¬ (17 : Int) = 16; decide)
    · rename_i hm
      rw [if_neg hm]
      split at e2
      · rename_i hp
        rw [if_pos hp]
        exact ⟨rfl, hp⟩
      · exact absurd e2 (by show ¬ (18 : Int) = 16; decide)
end

end Go.Proofs.Ytjnmpejcegmkhaa
