/- How long a process may still be on its way (P15), of the document's tree alone. How long a process may still be on its way (P15): what one Step does to it. How long a process may still be on its way (P15): a bound that falls with every round. How long a process may still be on its way (P15): rounds. How long a process may still be on its way (P15): the bound itself, and the steps of the document's tree. No statement of the seat is proved here. -/
import Derived.Test.YtjnmpejcegmkhabNew0
namespace Go.Proofs.Ytjnmpejcegmkhab
open Go.RowKit

/-- A walker's way from before a node, k levels above the deepest. -/
def AA (D : Nat) (s : Int) : Nat → Int
  | 0 => (D : Int) + 5
  | k + 1 => AA D s k + s + 8
theorem AA_ge (D : Nat) (s : Int) (hs : 0 ≤ s) : ∀ k, (D : Int) + 5 ≤ AA D s k
  | 0 => Int.le_refl _
  | k + 1 => by have := AA_ge D s hs k; simp only [AA]; omega
theorem AA_down (D : Nat) (s : Int) {d : Nat} (h : d < D) : AA D s (D - d) = AA D s (D - (d + 1)) + s + 8 := by
  have e : D - d = (D - (d + 1)) + 1 := by omega
  rw [e]
  rfl
def baseW (D : Nat) (s r k : Int) (d : Nat) : Int := if k < 3 then AA D s (D - d) else 2 * ((D : Int) - d) + D + r + 7

/-- How many rounds a process has before it, but for shut gates. -/
def work (D : Nat) (s r : Int) (sh : Bool) (k ph pat : Int) (d : Nat) : Int :=
  if ph = 0 then (if sh = true then baseW D s r k d - 1 else baseW D s r k d)
  else if ph = 1 then baseW D s r k d - 1
  else if ph = 2 then (if sh = true then baseW D s r k d - 1 else baseW D s r k d + 1)
  else if ph = 3 then AA D s (D - d) - 2
  else if ph = 4 then AA D s (D - d) - 3
  else if ph = 5 then AA D s (D - d) - 4
  else if ph = 6 then AA D s (D - (d + 1)) + 3 + pat
  else if ph = 7 then AA D s (D - (d + 1)) + 1
  else if ph = 8 then AA D s (D - (d + 1)) + 3
  else if ph = 9 then AA D s (D - (d + 1)) + 2
  else if ph = 10 then AA D s (D - (d + 1)) + 2
  else if ph = 11 then AA D s (D - (d + 1)) + 1
  else if ph = 12 then D + 3
  else if ph = 13 then D + 2
  else if ph = 14 then D + 2
  else if ph = 15 then D + r + 5
  else if ph = 16 then D + 4 + pat
  else if ph = 17 then D + 3
  else if ph = 18 then D + 3
  else if ph = 19 then d + 1
  else 0

/-- How long others may still be held up by it. -/
def holdW (r k ph pat : Int) : Int :=
  if ph = 16 then pat + 5 else if ph = 17 then 4 else if ph = 18 then 4 else if ph = 15 then r + 6
  else if 3 ≤ k ∧ (ph = 0 ∨ ph = 1 ∨ ph = 2) then r + 6 else 0

/-- Where a process may be, by its kind. -/
structure KP (k ph : Int) : Prop where
  walk : k < 3 → ¬ (15 ≤ ph ∧ ph ≤ 18)
  chg : 3 ≤ k → ph = 0 ∨ ph = 1 ∨ ph = 2 ∨ 15 ≤ ph

set_option maxHeartbeats 4000000 in
theorem work_own {D : Nat} {s r : Int} (hs : 0 ≤ s) (hr : 0 ≤ r) {v : Nat} {a b nd : Int} (hpm : PM v a b nd) (sh sh' : Bool) (k pat pat' : Int) (d d' : Nat) (ka : KP k a) (kb : KP k b) (hdD : d ≤ D) (hd'D : b ≠ 20 → d' ≤ D)
    (hin : 3 ≤ a → a ≤ 11 → d < D) (hd0 : nd = (v : Int) → d' = d) (hd1 : nd / 2 = (v : Int) → d' = d + 1) (hdu : nd = (v : Int) / 2 → (v : Int) / 2 ≠ 0 → d = d' + 1)
    (hsh : a ≤ 2 → b ≤ 2 → nd = (v : Int) → sh' = sh) (h1 : a = 1 → (b = 2 ↔ sh = true)) (h6 : a = 6 → 0 ≤ pat) (h66 : a = 6 → b = 6 → pat' = pat - 1) (h5 : a = 5 → b = 6 → pat' = s) (h15 : a = 15 → b = 16 → pat' = r) (h16 : a = 16 → 0 ≤ pat) (h161 : a = 16 → b = 16 → pat' = pat - 1)
    (hst : ¬ (a = 13 ∧ b = 13) ∧ ¬ (a = 14 ∧ b = 14)) :
    (¬ (a ≤ 2 ∧ sh = true) → work D s r sh' k b pat' d' + 1 ≤ work D s r sh k a pat d) ∧ work D s r sh' k b pat' d' ≤ work D s r sh k a pat d := by
  have g0 := AA_ge D s hs (D - d)
  have g1 := AA_ge D s hs (D - (d + 1))
  have gd := AA_down D s (d := d)
  replace gd : Hid _ := gd
  replace hin : Hid _ := hin
  replace hd0 : Hid _ := hd0
  replace hd1 : Hid _ := hd1
  replace hdu : Hid _ := hdu
  replace hsh : Hid _ := hsh
  replace h1 : Hid _ := h1
  replace h6 : Hid _ := h6
  replace h66 : Hid _ := h66
  replace h5 : Hid _ := h5
  replace h15 : Hid _ := h15
  replace h16 : Hid _ := h16
  replace h161 : Hid _ := h161
  replace hst : Hid _ := hst
  replace hd'D : Hid _ := hd'D
  cases hpm using PM.elim
  case enter =>
    have e := hd0.out rfl
    subst e
    have e2 := hsh.out (by decide) (by decide) rfl
    subst e2
    cases sh' <;> simp [work] <;> omega
  case look hb =>
    have e := hd0.out rfl
    subst e
    have h1' := h1.out rfl
    rcases hb with rfl | rfl | rfl | rfl
    · have e2 := hsh.out (by decide) (by decide) rfl
      have e3 := h1'.1 rfl
      subst e2 e3
      simp [work]
    · have e3 : sh = false := by cases sh; rfl; exact absurd (h1'.2 rfl) (by decide)
      subst e3
      have : k < 3 := Int.not_le.1 fun h => by rcases kb.chg h with x | x | x | x <;> revert x <;> decide
      simp [work, baseW, this]
      omega
    · have e3 : sh = false := by cases sh; rfl; exact absurd (h1'.2 rfl) (by decide)
      subst e3
      have : k < 3 := Int.not_le.1 fun h => by rcases kb.chg h with x | x | x | x <;> revert x <;> decide
      simp [work, baseW, this]
      omega
    · have e3 : sh = false := by cases sh; rfl; exact absurd (h1'.2 rfl) (by decide)
      subst e3
      simp only [work, baseW]
      simp
      split <;> omega
  case lookDown hb hn =>
    have e := hd1.out hn
    have h1' := h1.out rfl
    have hb2 : b ≠ 2 := by rcases hb with rfl | rfl <;> decide
    have e3 : sh = false := by cases sh; rfl; exact absurd (h1'.2 rfl) hb2
    have hdd := hd'D.out (by rcases hb with rfl | rfl <;> decide)
    subst e e3
    have gd' := gd.out (by omega)
    rcases hb with rfl | rfl
    · cases sh' <;> simp [work, baseW] <;> split <;> omega
    · have hk : ¬ k < 3 := fun h => kb.walk h (by decide)
      simp [work, baseW, hk]
      omega
  case back =>
    have e := hd0.out rfl
    subst e
    have e2 := hsh.out (by decide) (by decide) rfl
    subst e2
    cases sh' <;> simp [work] <;> omega
  case wide =>
    have e := hd0.out rfl
    subst e
    simp [work]
    omega
  case slot hb =>
    have e := hd0.out rfl
    subst e
    have gd' := gd.out (hin.out (by decide) (by decide))
    rcases hb with rfl | rfl | rfl <;> simp [work] <;> omega
  case claim hb =>
    have e := hd0.out rfl
    subst e
    have gd' := gd.out (hin.out (by decide) (by decide))
    rcases hb with rfl | rfl
    · have := h5.out rfl rfl
      simp [work]
      omega
    · simp [work]
      omega
  case wait hb =>
    have e := hd0.out rfl
    subst e
    have h6' := h6.out rfl
    rcases hb with rfl | rfl | rfl
    · simp [work]
      omega
    · have := h66.out rfl rfl
      simp [work]
      omega
    · simp [work]
      omega
  case down ha hn =>
    have e := hd1.out hn
    subst e
    have hk : k < 3 := Int.not_le.1 fun h => by rcases ha with rfl | rfl | rfl <;> rcases ka.chg h with x | x | x | x <;> revert x <;> decide
    rcases ha with rfl | rfl | rfl <;> cases sh' <;> simp [work, baseW, hk] <;> omega
  case out ha =>
    have e := hd0.out rfl
    subst e
    rcases ha with rfl | rfl <;> simp [work] <;> omega
  case grow =>
    have e := hd0.out rfl
    subst e
    simp [work]
    omega
  case width ha =>
    have e := hd0.out rfl
    subst e
    rcases ha with rfl | rfl <;> simp [work] <;> omega
  case ticket hb =>
    have e := hd0.out rfl
    subst e
    rcases hb with rfl | rfl | rfl <;> simp [work] <;> omega
  case store hb =>
    have e := hd0.out rfl
    subst e
    rcases hb with rfl | rfl
    · simp [work]
      omega
    · exact absurd ⟨rfl, rfl⟩ hst.out.1
  case fetch hb =>
    have e := hd0.out rfl
    subst e
    rcases hb with rfl | rfl
    · simp [work]
      omega
    · exact absurd ⟨rfl, rfl⟩ hst.out.2
  case shut =>
    have e := hd0.out rfl
    subst e
    have := h15.out rfl rfl
    simp [work]
    omega
  case drain hb =>
    have e := hd0.out rfl
    subst e
    have h16' := h16.out rfl
    rcases hb with rfl | rfl | rfl
    · simp [work]
      omega
    · have := h161.out rfl rfl
      simp [work]
      omega
    · simp [work]
      omega
  case up hv ha =>
    have e := hdu.out rfl hv
    rcases ha with rfl | rfl | rfl | rfl <;> simp [work] <;> omega
  case done hv ha =>
    rcases ha with rfl | rfl | rfl | rfl <;> simp [work] <;> omega

theorem hold_step {r : Int} (hr : 0 ≤ r) {v : Nat} {a b nd : Int} (hpm : PM v a b nd) (k pat pat' : Int) (ka : KP k a) (kb : KP k b) (h15 : a = 15 → b = 16 → pat' = r) (h16 : a = 16 → 0 ≤ pat) (h161 : a = 16 → b = 16 → pat' = pat - 1) :
    holdW r k b pat' ≤ holdW r k a pat ∧ (16 ≤ a → a ≤ 18 → holdW r k b pat' + 1 ≤ holdW r k a pat) ∧ (a = 15 → holdW r k b pat' + 1 ≤ holdW r k a pat) ∧ (a = 17 ∨ a = 18 → holdW r k b pat' + 4 ≤ holdW r k a pat) := by
  have kc := kb.chg
  have kw := kb.walk
  cases hpm using PM.elim
  case enter => simp [holdW]
  case look hb => rcases hb with rfl | rfl | rfl | rfl <;> simp [holdW] <;> omega
  case lookDown hb hn =>
    rcases hb with rfl | rfl
    · simp [holdW]
    · have hk : 3 ≤ k := Int.not_lt.1 fun h => kw h (by decide)
      simp [holdW, hk]
  case back => simp [holdW]
  case wide => simp [holdW]
  case slot hb => rcases hb with rfl | rfl | rfl <;> simp [holdW]
  case claim hb => rcases hb with rfl | rfl <;> simp [holdW]
  case wait hb => rcases hb with rfl | rfl | rfl <;> simp [holdW]
  case down ha hn =>
    have hk : ¬ 3 ≤ k := fun h => by rcases ha with rfl | rfl | rfl <;> rcases ka.chg h with x | x | x | x <;> revert x <;> decide
    rcases ha with rfl | rfl | rfl <;> simp [holdW, hk]
  case out ha => rcases ha with rfl | rfl <;> simp [holdW]
  case grow => simp [holdW]
  case width ha => rcases ha with rfl | rfl <;> simp [holdW]
  case ticket hb => rcases hb with rfl | rfl | rfl <;> simp [holdW]
  case store hb => rcases hb with rfl | rfl <;> simp [holdW]
  case fetch hb => rcases hb with rfl | rfl <;> simp [holdW]
  case shut =>
    have := h15 rfl rfl
    simp [holdW]
    omega
  case drain hb =>
    have h16' := h16 rfl
    rcases hb with rfl | rfl | rfl
    · simp [holdW]; omega
    · have := h161 rfl rfl
      simp [holdW]; omega
    · simp [holdW]; omega
  case up hv ha => rcases ha with rfl | rfl | rfl | rfl <;> simp [holdW] <;> omega
  case done hv ha => rcases ha with rfl | rfl | rfl | rfl <;> simp [holdW] <;> omega

theorem work_gate (D : Nat) (s r : Int) (sh sh' : Bool) (k ph pat : Int) (d : Nat) : work D s r sh' k ph pat d ≤ work D s r sh k ph pat d + 2 ∧ (¬ (sh = true ∧ sh' = false) → work D s r sh' k ph pat d ≤ work D s r sh k ph pat d) := by
  by_cases h0 : ph = 0
  · subst h0
    cases sh <;> cases sh' <;> simp [work] <;> omega
  · by_cases h2 : ph = 2
    · subst h2
      cases sh <;> cases sh' <;> simp [work] <;> omega
    · have e : work D s r sh' k ph pat d = work D s r sh k ph pat d := by
        unfold work
        rw [if_neg h0, if_neg h0, if_neg h2, if_neg h2]
      rw [e]
      exact ⟨by omega, fun _ => Int.le_refl _⟩

theorem toPPs_setP_get {i : Nat} {l : List PP} {x y : PP} (hi : i < l.length) (h : l.set i x = l.set i y) : x = y := by
  have := congrArg (fun z => z[i]?) h
  simpa [hi] using this
theorem shutL_inc (L : Lay) (i : Nat) (hi : i < L.procs.length) (u : Int) : shutL u (L.setP i (incPr (L.procs[i]).2)).procs = shutL u L.procs := by
  refine shutL_set u L.procs i hi _ ?_
  rfl
section
variable {c : Conf} {L : Lay} {P : PLay} {i v : Nat} {p : Pr} {n : PN}

structure Facts (c : Conf) (sh : Bool) (p p' : Pr) : Prop where
  look : p.phase = 1 → (p'.phase = 2 ↔ sh = true)
  wait : p.phase = 6 → p'.phase = 6 → p'.pat = p.pat - 1 ∧ 0 < p.pat
  claim : p.phase = 5 → p'.phase = 6 → p'.pat = c.spin
  shut : p.phase = 15 → p'.phase = 16 → p'.pat = c.drain
  drain : p.phase = 16 → p'.phase = 16 → p'.pat = p.pat - 1 ∧ 0 < p.pat

theorem Here.facts (h : Here c L P i v p n) (ck : CK c L P) (draw : Int) : ∃ p', Went L i v p p' (lstep L i draw) ∧ Facts c (shutL v L.procs) p p' := by
  obtain ⟨p', hw⟩ := h.went ck draw
  refine ⟨p', hw, ?_⟩
  have hi := h.hi
  have hcL := h.rel.cL
  have key : p.phase ≠ 8 ∧ p.phase ≠ 9 ∧ p.phase ≠ 10 ∧ p.phase ≠ 11 ∧ p.phase ≠ 12 ∧ p.phase ≠ 13 ∧ p.phase ≠ 14 ∧ p.phase ≠ 17 → toPP p' = toPP (lmove (L.setP i (incPr p)) v (incPr p) draw) := by
    rintro ⟨h1, h2, h3, h4, h5, h6, h7, h8⟩
    have el : lstep L i draw = (L.setP i (incPr p)).setP i (lmove (L.setP i (incPr p)) v (incPr p) draw) := by
      rw [h.lat draw, h.lget]
      simp only [h1, h2, h3, h4, h5, h6, h7, h8, if_false]
    have e2 : ∀ q : Pr, toPPs ((L.setP i (incPr p)).setP i q).procs = (toPPs L.procs).set i (toPP q) := by
      intro q
      rw [toPPs_setP, toPPs_setP, List.set_set]
    have e := hw.procs
    rw [el, e2] at e
    exact (toPPs_setP_get (by rw [toPPs_len]; exact hi) e).symm
  have hsh : shutL (v : Int) (L.setP i (incPr p)).procs = shutL v L.procs := by
    have := shutL_inc L i hi v
    rw [h.ep] at this
    exact this
  have fld : ∀ q : Pr, toPP p' = toPP q → p'.phase = q.phase ∧ p'.pat = q.pat := by
    intro q e
    unfold toPP at e
    simp only [PP.mk.injEq] at e
    exact ⟨e.2.2.2.1, e.2.2.2.2.2.2.2.2.2.1⟩
  refine ⟨fun e1 => ?_, fun e1 e2 => ?_, fun e1 e2 => ?_, fun e1 e2 => ?_, fun e1 e2 => ?_⟩
  · obtain ⟨a, _⟩ := fld _ (key (by omega))
    rw [a]
    unfold lmove
    rw [if_neg (show ¬ (incPr p).phase = 0 by show ¬ p.phase = 0; omega), if_pos (show (incPr p).phase = 1 from e1), hsh]
    cases hs : shutL (v : Int) L.procs
    · simp only [Bool.false_eq_true, if_false, iff_false]
      split
      · show ¬ (if _ then (3 : Int) else 12) = 2
        split <;> decide
      · split
        · show ¬ (if _ then (15 : Int) else 0) = 2
          split <;> decide
        · show ¬ (19 : Int) = 2
          decide
    · simp
  · obtain ⟨a, b⟩ := fld _ (key (by omega))
    rw [a] at e2
    rw [b]
    unfold lmove at e2 ⊢
    have e : (incPr p).phase = 6 := e1
    rw [if_neg (by omega), if_neg (by omega), if_neg (by omega), if_neg (by omega), if_neg (by omega), if_neg (by omega), if_pos e] at e2 ⊢
    unfold waitPr at e2 ⊢
    split at e2
    · exact absurd e2 (by show ¬ (7 : Int) = 6; decide)
    · rename_i hm
      rw [if_neg hm]
      split at e2
      · rename_i hp
        rw [if_pos hp]
        exact ⟨rfl, hp⟩
      · exact absurd e2 (by show ¬ (10 : Int) = 6; decide)
  · obtain ⟨a, b⟩ := fld _ (key (by omega))
    rw [a] at e2
    rw [b]
    unfold lmove at e2 ⊢
    have e : (incPr p).phase = 5 := e1
    rw [if_neg (by omega), if_neg (by omega), if_neg (by omega), if_neg (by omega), if_neg (by omega), if_pos e] at e2 ⊢
    split at e2
    · rename_i hm
      rw [if_pos hm]
      show L.c.spin = c.spin
      rw [hcL]
    · exact absurd e2 (by show ¬ (9 : Int) = 6; decide)
  · obtain ⟨a, b⟩ := fld _ (key (by omega))
    rw [a] at e2
    rw [b]
    unfold lmove at e2 ⊢
    have e : (incPr p).phase = 15 := e1
    rw [if_neg (by omega), if_neg (by omega), if_neg (by omega), if_neg (by omega), if_neg (by omega), if_neg (by omega), if_neg (by omega), if_neg (by omega), if_pos e] at e2 ⊢
    unfold shutCh at e2 ⊢
    split at e2
    · exfalso
      revert e2
      unfold upPr
      simp only
      split <;> decide
    · rename_i hm
      rw [if_neg hm]
      show L.c.drain = c.drain
      rw [hcL]
  · obtain ⟨a, b⟩ := fld _ (key (by omega))
    rw [a] at e2
    rw [b]
    unfold lmove at e2 ⊢
    have e : (incPr p).phase = 16 := e1
    rw [if_neg (by omega), if_neg (by omega), if_neg (by omega), if_neg (by omega), if_neg (by omega), if_neg (by omega), if_neg (by omega), if_neg (by omega), if_neg (by omega), if_pos e] at e2 ⊢
    unfold drainCh at e2 ⊢
    split at e2
    · exact absurd e2 (by show ¬ (17 : Int) = 16; decide)
    · rename_i hm
      rw [if_neg hm]
      split at e2
      · rename_i hp
        rw [if_pos hp]
        exact ⟨rfl, hp⟩
      · exact absurd e2 (by show ¬ (18 : Int) = 16; decide)
end

def sumQ (f : PP → Int) : List PP → Int
  | [] => 0
  | q :: r => f q + sumQ f r
theorem sumQ_set (f : PP → Int) : ∀ (l : List PP) (i : Nat) (hi : i < l.length) (q : PP), sumQ f (l.set i q) + f l[i] = sumQ f l + f q
  | [], i, hi, _ => by simp at hi
  | y :: r, 0, _, q => by simp only [List.set_cons_zero, sumQ, List.getElem_cons_zero]; omega
  | y :: r, i + 1, hi, q => by
    have := sumQ_set f r i (by simpa using hi) q
    simp only [List.set_cons_succ, sumQ, List.getElem_cons_succ]
    omega

def inHold (u : Int) (q : PP) : Bool := decide (q.node = u) && (decide (q.phase = 16) || decide (q.phase = 17) || decide (q.phase = 18))
theorem inHold_iff (u : Int) (q : PP) : inHold u q = true ↔ q.node = u ∧ 16 ≤ q.phase ∧ q.phase ≤ 18 := by
  unfold inHold
  simp only [Bool.and_eq_true, Bool.or_eq_true, decide_eq_true_eq]
  omega
def shQ (u : Int) : List PP → Bool
  | [] => false
  | q :: r => inHold u q || shQ u r
theorem shQ_ex {u : Int} : ∀ {l : List PP}, shQ u l = true → ∃ x, ∃ hx : x < l.length, inHold u l[x] = true
  | [], h => by simp [shQ] at h
  | q :: r, h => by
    simp only [shQ, Bool.or_eq_true] at h
    rcases h with h | h
    · exact ⟨0, by simp, by simpa using h⟩
    · obtain ⟨x, hx, e⟩ := shQ_ex h
      exact ⟨x + 1, by simpa using hx, by simpa using e⟩
theorem shQ_of {u : Int} : ∀ {l : List PP} (x : Nat) (hx : x < l.length), inHold u l[x] = true → shQ u l = true
  | [], _, hx, _ => by simp at hx
  | q :: r, 0, _, h => by simp only [List.getElem_cons_zero] at h; simp [shQ, h]
  | q :: r, x + 1, hx, h => by simp only [List.getElem_cons_succ] at h; simp [shQ, shQ_of x (by simpa using hx) h]
theorem shQ_set {u : Int} : ∀ (l : List PP) (i : Nat) (hi : i < l.length) (q : PP), inHold u q = inHold u l[i] → shQ u (l.set i q) = shQ u l
  | [], i, hi, _, _ => by simp at hi
  | y :: r, 0, _, q, h => by simp only [List.set_cons_zero, shQ, List.getElem_cons_zero] at *; rw [h]
  | y :: r, i + 1, hi, q, h => by
    simp only [List.set_cons_succ, shQ, List.getElem_cons_succ] at *
    rw [shQ_set r i (by simpa using hi) q h]
theorem shQ_pps (u : Int) : ∀ ps : Prs, shQ u (toPPs ps) = shutL u ps
  | [] => rfl
  | x :: r => by
    show (inHold u (toPP x.2) || shQ u (toPPs r)) = _
    rw [shQ_pps u r]
    rfl

def dQ (q : PP) : Nat := Nat.log2 q.node.toNat
def workQ (c : Conf) (sh : Bool) (q : PP) : Int := work c.depth.toNat c.spin c.drain sh q.kind q.phase q.pat (dQ q)
def holdQ (c : Conf) (q : PP) : Int := holdW c.drain q.kind q.phase q.pat
def phi (c : Conf) (l : List PP) (q : PP) : Int := workQ c (shQ q.node l) q + sumQ (holdQ c) l - holdQ c q
def arrived (q : PP) : Prop := q.phase = 13 ∨ q.phase = 14 ∨ q.phase = 19 ∨ q.phase = 20

/-- One Step, of the processes alone. -/
structure SQ (c : Conf) (l : List PP) (j v : Nat) (q q' : PP) : Prop where
  hj : j < l.length
  eq : l[j] = q
  at' : q.node = (v : Int)
  v1 : 1 ≤ v
  v32 : v < 32
  vD : v < 2 ^ (c.depth.toNat + 1)
  kind : q'.kind = q.kind
  pm : PM v q.phase q'.phase q'.node
  ka : KP q.kind q.phase
  kb : KP q.kind q'.phase
  inn : 3 ≤ q.phase → q.phase ≤ 11 → 2 * v + 1 < 2 ^ (c.depth.toNat + 1)
  node : q'.phase ≠ 20 → ∃ u : Nat, q'.node = (u : Int) ∧ 1 ≤ u ∧ u < 2 ^ (c.depth.toNat + 1)
  look : q.phase = 1 → (q'.phase = 2 ↔ shQ v l = true)
  wait : q.phase = 6 → 0 ≤ q.pat ∧ (q'.phase = 6 → q'.pat = q.pat - 1)
  claim : q.phase = 5 → q'.phase = 6 → q'.pat = c.spin
  shut : q.phase = 15 → q'.phase = 16 → q'.pat = c.drain
  drain : q.phase = 16 → 0 ≤ q.pat ∧ (q'.phase = 16 → q'.pat = q.pat - 1)
  spin0 : 0 ≤ c.spin
  drain0 : 0 ≤ c.drain

theorem log2_up : ∀ v : Fin 32, 1 ≤ v.1 → v.1 / 2 ≠ 0 → Nat.log2 v.1 = Nat.log2 (v.1 / 2) + 1 := by decide

theorem PM.from16 {v : Nat} {a b nd : Int} (h : PM v a b nd) (ha : a = 16) : nd = (v : Int) ∧ 16 ≤ b ∧ b ≤ 18 := by
  cases h <;> omega
theorem PM.live {v : Nat} {a b nd : Int} (h : PM v a b nd) : a ≠ 20 ∧ 0 ≤ a ∧ a ≤ 19 := by
  cases h <;> omega
theorem PM.arr {v : Nat} {a b nd : Int} (h : PM v a b nd) (ha : a = 13 ∨ a = 14 ∨ a = 19) : b = 13 ∨ b = 14 ∨ b = 19 ∨ b = 20 := by
  cases h <;> omega
theorem PM.low {v : Nat} {a b nd : Int} (h : PM v a b nd) (ha : a = 0 ∨ a = 2) : nd = (v : Int) ∧ b ≤ 2 := by
  cases h <;> omega
theorem PM.back1 {v : Nat} {a b nd : Int} (h : PM v a b nd) (ha : a = 1) (hb : b = 2) : nd = (v : Int) := by
  cases h <;> omega

theorem SQ.hold {c : Conf} {l : List PP} {j v : Nat} {q q' : PP} (h : SQ c l j v q q') : holdQ c q' ≤ holdQ c q ∧ (15 ≤ q.phase → q.phase ≤ 18 → holdQ c q' + 1 ≤ holdQ c q) ∧ (q.phase = 17 ∨ q.phase = 18 → holdQ c q' + 4 ≤ holdQ c q) := by
  obtain ⟨a, b, d, e⟩ := hold_step h.drain0 h.pm q.kind q.pat q'.pat h.ka h.kb h.shut (fun x => (h.drain x).1) (fun x => (h.drain x).2)
  unfold holdQ
  rw [h.kind]
  refine ⟨a, fun x y => ?_, e⟩
  by_cases e15 : q.phase = 15
  · exact d e15
  · exact b (by omega) y

theorem SQ.other {c : Conf} {l : List PP} {j v : Nat} {q q' : PP} (h : SQ c l j v q q') (i : Nat) (hi : i < l.length) (hij : i ≠ j) : phi c (l.set j q') l[i] ≤ phi c l l[i] ∧ (15 ≤ q.phase → q.phase ≤ 18 → phi c (l.set j q') l[i] + 1 ≤ phi c l l[i]) := by
  obtain ⟨a, b, d⟩ := h.hold
  have hs := sumQ_set (holdQ c) l j h.hj q'
  rw [h.eq] at hs
  have hg := work_gate c.depth.toNat c.spin c.drain (shQ (l[i]).node l) (shQ (l[i]).node (l.set j q')) (l[i]).kind (l[i]).phase (l[i]).pat (dQ l[i])
  have key : shQ (l[i]).node l = true ∧ shQ (l[i]).node (l.set j q') = false → q.phase = 17 ∨ q.phase = 18 := by
    rintro ⟨e1, e2⟩
    obtain ⟨x, hx, ex⟩ := shQ_ex e1
    have hxj : x = j := by
      by_cases e : x = j
      · exact e
      · exfalso
        have : shQ (l[i]).node (l.set j q') = true := shQ_of x (by simpa using hx) (by rw [List.getElem_set_ne (Ne.symm e)]; exact ex)
        rw [this] at e2
        exact absurd e2 (by decide)
    subst hxj
    rw [h.eq] at ex
    have hq := (inHold_iff _ _).1 ex
    have hq' : ¬ (q'.node = (l[i]).node ∧ 16 ≤ q'.phase ∧ q'.phase ≤ 18) := by
      intro x'
      have : shQ (l[i]).node (l.set x q') = true := shQ_of x (by simpa using hx) (by rw [List.getElem_set_self]; exact (inHold_iff _ _).2 x')
      rw [this] at e2
      exact absurd e2 (by decide)
    have hat := h.at'
    have hpm := h.pm
    by_cases e16 : q.phase = 16
    · exfalso
      obtain ⟨x1, x2, x3⟩ := hpm.from16 e16
      exact hq' ⟨by omega, x2, x3⟩
    · omega
  unfold phi workQ
  by_cases e : shQ (l[i]).node l = true ∧ shQ (l[i]).node (l.set j q') = false
  · have := d (key e)
    exact ⟨by omega, fun _ _ => by omega⟩
  · have := hg.2 e
    exact ⟨by omega, fun x y => by have := b x y; omega⟩

theorem SQ.own {c : Conf} {l : List PP} {j v : Nat} {q q' : PP} (h : SQ c l j v q q') (hna : ¬ arrived q) :
    phi c (l.set j q') q' ≤ phi c l q ∧ (¬ (q.phase ≤ 2 ∧ shQ v l = true) → phi c (l.set j q') q' + 1 ≤ phi c l q) ∧ (q.phase ≤ 2 ∧ shQ v l = true → q'.phase ≤ 2 ∧ q'.node = (v : Int)) := by
  have hs := sumQ_set (holdQ c) l j h.hj q'
  rw [h.eq] at hs
  have hat := h.at'
  have hpm := h.pm
  have hd : dQ q ≤ c.depth.toNat := by
    unfold dQ
    rw [hat, Int.toNat_natCast]
    have := (Nat.log2_lt (show v ≠ 0 by have := h.v1; omega)).2 h.vD
    omega
  have hdv : dQ q = Nat.log2 v := by unfold dQ; rw [hat, Int.toNat_natCast]
  have hd' : q'.phase ≠ 20 → dQ q' ≤ c.depth.toNat := by
    intro h20
    obtain ⟨u, e, u1, u2⟩ := h.node h20
    unfold dQ
    rw [e, Int.toNat_natCast]
    have := (Nat.log2_lt (show u ≠ 0 by omega)).2 u2
    omega
  have hin : 3 ≤ q.phase → q.phase ≤ 11 → dQ q < c.depth.toNat := by
    intro a b
    have h1 := h.inn a b
    have h2 := (Nat.log2_lt (show 2 * v + 1 ≠ 0 by omega)).2 h1
    have h3 := (log2_kid ⟨v, h.v32⟩ h.v1).2
    simp only at h3
    omega
  have hk0 : q'.node = (v : Int) → dQ q' = dQ q := by
    intro e
    rw [hdv]
    unfold dQ
    rw [e, Int.toNat_natCast]
  have hk1 : q'.node / 2 = (v : Int) → dQ q' = dQ q + 1 := by
    intro e
    have h3 := log2_kid ⟨v, h.v32⟩ h.v1
    simp only at h3
    rw [hdv]
    unfold dQ
    have : q'.node.toNat = 2 * v ∨ q'.node.toNat = 2 * v + 1 := by omega
    rcases this with x | x
    · rw [x]; exact h3.1
    · rw [x]; exact h3.2
  have hku : q'.node = (v : Int) / 2 → (v : Int) / 2 ≠ 0 → dQ q = dQ q' + 1 := by
    intro e e0
    have h3 := log2_up ⟨v, h.v32⟩ h.v1 (by show v / 2 ≠ 0; omega)
    simp only at h3
    rw [hdv]
    unfold dQ
    have : q'.node.toNat = v / 2 := by omega
    rw [this]
    exact h3
  have hsh : q.phase ≤ 2 → q'.phase ≤ 2 → q'.node = (v : Int) → shQ q'.node (l.set j q') = shQ v l := by
    intro a b e
    rw [e]
    refine shQ_set l j h.hj q' ?_
    rw [h.eq]
    have e1 : inHold (v : Int) q' = false := by
      cases hh : inHold (v : Int) q'
      · rfl
      · have := (inHold_iff _ _).1 hh; omega
    have e2 : inHold (v : Int) q = false := by
      cases hh : inHold (v : Int) q
      · rfl
      · have := (inHold_iff _ _).1 hh; omega
    rw [e1, e2]
  have hst : ¬ (q.phase = 13 ∧ q'.phase = 13) ∧ ¬ (q.phase = 14 ∧ q'.phase = 14) := ⟨fun x => hna (Or.inl x.1), fun x => hna (Or.inr (Or.inl x.1))⟩
  obtain ⟨w1, w2⟩ := work_own h.spin0 h.drain0 hpm (shQ v l) (shQ q'.node (l.set j q')) q.kind q.pat q'.pat (dQ q) (dQ q') h.ka h.kb hd hd' hin hk0 hk1 hku hsh h.look (fun x => (h.wait x).1) (fun x => (h.wait x).2) h.claim h.shut (fun x => (h.drain x).1) (fun x => (h.drain x).2) hst
  have e0 : phi c l q = work c.depth.toNat c.spin c.drain (shQ v l) q.kind q.phase q.pat (dQ q) + sumQ (holdQ c) l - holdQ c q := by unfold phi workQ; rw [hat]
  have e1 : phi c (l.set j q') q' = work c.depth.toNat c.spin c.drain (shQ q'.node (l.set j q')) q.kind q'.phase q'.pat (dQ q') + sumQ (holdQ c) (l.set j q') - holdQ c q' := by unfold phi workQ; rw [h.kind]
  rw [e0, e1]
  refine ⟨by omega, fun x => by have := w1 x; omega, fun x => ?_⟩
  obtain ⟨x1, x2⟩ := x
  have hpl := hpm.live
  by_cases e1 : q.phase = 1
  · have e2 := (h.look e1).2 x2
    exact ⟨by omega, hpm.back1 e1 e2⟩
  · have := hpm.low (by omega)
    exact ⟨this.2, this.1⟩

theorem PM.into {v : Nat} {a b nd : Int} (h : PM v a b nd) (hb : 16 ≤ b ∧ b ≤ 18) : 15 ≤ a ∧ a ≤ 18 := by
  cases h <;> omega

/-- In the midst of a round that began with l0; dn: who has had its turn. -/
structure RI (c : Conf) (l0 l : List PP) (dn : List Nat) : Prop where
  len : l.length = l0.length
  keep : ∀ i, (hi : i < l.length) → (h0 : i < l0.length) → arrived l0[i] → arrived l[i]
  r1 : ∀ i, (hi : i < l.length) → (h0 : i < l0.length) → arrived l[i] ∨ phi c l l[i] ≤ phi c l0 l0[i]
  r2 : ∀ x, x ∈ dn → (hx : x < l.length) → 16 ≤ (l[x]).phase → (l[x]).phase ≤ 18 → ∀ i, (hi : i < l.length) → (h0 : i < l0.length) → i ≠ x → arrived l[i] ∨ phi c l l[i] + 1 ≤ phi c l0 l0[i]
  r3 : ∀ i, i ∈ dn → (hi : i < l.length) → (h0 : i < l0.length) → arrived l[i] ∨ phi c l l[i] + 1 ≤ phi c l0 l0[i] ∨ ((l[i]).phase ≤ 2 ∧ ∃ x, ∃ hx : x < l.length, x ∉ dn ∧ inHold (l[i]).node l[x] = true)

theorem RI.start (c : Conf) (l : List PP) : RI c l l [] :=
  ⟨rfl, fun _ _ _ h => h, fun _ _ _ => Or.inr (Int.le_refl _), fun x hx => by simp at hx, fun i hi => by simp at hi⟩

theorem RI.skip {c : Conf} {l0 l : List PP} {dn : List Nat} (h : RI c l0 l dn) (j : Nat) (hj : j < l.length) (h20 : (l[j]).phase = 20) : RI c l0 l (j :: dn) := by
  refine ⟨h.len, h.keep, h.r1, fun x hx hxl a b i hi h0 hne => ?_, fun i hi hil h0 => ?_⟩
  · rcases List.mem_cons.1 hx with e | e
    · subst e; omega
    · exact h.r2 x e hxl a b i hi h0 hne
  · rcases List.mem_cons.1 hi with e | e
    · subst e
      exact Or.inl (Or.inr (Or.inr (Or.inr h20)))
    · rcases h.r3 i e hil h0 with a | a | ⟨a, x, hx, b, d⟩
      · exact Or.inl a
      · exact Or.inr (Or.inl a)
      · refine Or.inr (Or.inr ⟨a, x, hx, fun hm => ?_, d⟩)
        rcases List.mem_cons.1 hm with e' | e'
        · subst e'
          have := (inHold_iff _ _).1 d
          omega
        · exact b e'

theorem RI.step {c : Conf} {l0 l : List PP} {dn : List Nat} (h : RI c l0 l dn) {j v : Nat} {q q' : PP} (hs : SQ c l j v q q') : RI c l0 (l.set j q') (j :: dn) := by
  have hj := hs.hj
  have hq := hs.eq
  have hpm := hs.pm
  have hpl := hpm.live
  have hl := h.len
  have arr : arrived q → arrived q' := by
    intro a
    have : q.phase = 13 ∨ q.phase = 14 ∨ q.phase = 19 := by unfold arrived at a; omega
    exact hpm.arr this
  have hat := hs.at'
  have get : ∀ i, (hi : i < l.length) → (hi' : i < (l.set j q').length) → i ≠ j → (l.set j q')[i] = l[i] := fun i hi hi' e => List.getElem_set_ne (Ne.symm e) _
  have self : ∀ hi' : j < (l.set j q').length, (l.set j q')[j] = q' := fun _ => List.getElem_set_self _
  have own := fun (na : ¬ arrived q) => hs.own na
  have r1j : ∀ h0 : j < l0.length, arrived q ∨ phi c l q ≤ phi c l0 l0[j] := by
    intro h0
    have := h.r1 j hj h0
    rw [hq] at this
    exact this
  refine ⟨by simpa using hl, fun i hi' h0 ha => ?_, fun i hi' h0 => ?_, fun x hx hx' a b i hi' h0 hne => ?_, fun i him hi' h0 => ?_⟩
  · have hi : i < l.length := by simpa using hi'
    have hk := h.keep i hi h0 ha
    by_cases e : i = j
    · subst e
      rw [self]
      rw [hq] at hk
      exact arr hk
    · rw [get i hi hi' e]
      exact hk
  · have hi : i < l.length := by simpa using hi'
    by_cases e : i = j
    · subst e
      rw [self]
      by_cases na : arrived q
      · exact Or.inl (arr na)
      · rcases r1j h0 with x | x
        · exact absurd x na
        · exact Or.inr (Int.le_trans (own na).1 x)
    · rw [get i hi hi' e]
      rcases h.r1 i hi h0 with x | x
      · exact Or.inl x
      · exact Or.inr (Int.le_trans (hs.other i hi e).1 x)
  · have hi : i < l.length := by simpa using hi'
    have hxl : x < l.length := by simpa using hx'
    by_cases exj : x = j
    · subst exj
      rw [self] at a b
      obtain ⟨p1, p2⟩ := hpm.into ⟨a, b⟩
      rw [get i hi hi' hne]
      rcases h.r1 i hi h0 with z | z
      · exact Or.inl z
      · have := (hs.other i hi hne).2 p1 p2
        exact Or.inr (by omega)
    · have hxd : x ∈ dn := by
        rcases List.mem_cons.1 hx with e | e
        · exact absurd e exj
        · exact e
      rw [get x hxl hx' exj] at a b
      by_cases e : i = j
      · subst e
        rw [self]
        by_cases na : arrived q
        · exact Or.inl (arr na)
        · have := h.r2 x hxd hxl a b i hi h0 hne
          rw [hq] at this
          rcases this with z | z
          · exact absurd z na
          · have := (own na).1
            exact Or.inr (by omega)
      · rw [get i hi hi' e]
        rcases h.r2 x hxd hxl a b i hi h0 hne with z | z
        · exact Or.inl z
        · have := (hs.other i hi e).1
          exact Or.inr (by omega)
  · have hi : i < l.length := by simpa using hi'
    by_cases e : i = j
    · subst e
      rw [self]
      by_cases na : arrived q
      · exact Or.inl (arr na)
      · obtain ⟨o1, o2, o3⟩ := own na
        rcases r1j h0 with z | z
        · exact absurd z na
        · by_cases bl : q.phase ≤ 2 ∧ shQ v l = true
          · obtain ⟨x, hx, ex⟩ := shQ_ex bl.2
            have hh := (inHold_iff _ _).1 ex
            have hxi : x ≠ i := by
              intro e
              subst e
              rw [hq] at hh
              omega
            by_cases hxd : x ∈ dn
            · have := h.r2 x hxd hx hh.2.1 hh.2.2 i hi h0 (Ne.symm hxi)
              rw [hq] at this
              rcases this with y | y
              · exact absurd y na
              · exact Or.inr (Or.inl (by omega))
            · obtain ⟨y1, y2⟩ := o3 bl
              refine Or.inr (Or.inr ⟨y1, x, by simpa using hx, fun hm => ?_, ?_⟩)
              · rcases List.mem_cons.1 hm with e' | e'
                · exact hxi e'
                · exact hxd e'
              · rw [y2, get x hx (by simpa using hx) hxi]
                exact ex
          · have := o2 bl
            exact Or.inr (Or.inl (by omega))
    · have hid : i ∈ dn := by
        rcases List.mem_cons.1 him with e' | e'
        · exact absurd e' e
        · exact e'
      rw [get i hi hi' e]
      rcases h.r3 i hid hi h0 with z | z | ⟨z, x, hx, hxd, ex⟩
      · exact Or.inl z
      · have := (hs.other i hi e).1
        exact Or.inr (Or.inl (by omega))
      · by_cases exj : x = j
        · subst exj
          have hh := (inHold_iff _ _).1 ex
          rw [hq] at hh
          rcases h.r1 i hi h0 with y | y
          · exact Or.inl y
          · have := (hs.other i hi e).2 (by omega) (by omega)
            exact Or.inr (Or.inl (by omega))
        · refine Or.inr (Or.inr ⟨z, x, by simpa using hx, fun hm => ?_, ?_⟩)
          · rcases List.mem_cons.1 hm with e' | e'
            · exact exj e'
            · exact hxd e'
          · rw [get x hx (by simpa using hx) exj]
            exact ex

theorem RI.round {c : Conf} {l0 l : List PP} {dn : List Nat} (h : RI c l0 l dn) (hall : ∀ i, (hi : i < l.length) → i ∈ dn ∨ (l[i]).phase = 20) (i : Nat) (hi : i < l.length) (h0 : i < l0.length) : arrived l[i] ∨ phi c l l[i] + 1 ≤ phi c l0 l0[i] := by
  rcases hall i hi with hd | hd
  · rcases h.r3 i hd hi h0 with z | z | ⟨_, x, hx, hxd, ex⟩
    · exact Or.inl z
    · exact Or.inr z
    · exfalso
      have hh := (inHold_iff _ _).1 ex
      rcases hall x hx with y | y
      · exact hxd y
      · omega
  · exact Or.inl (Or.inr (Or.inr (Or.inr hd)))

theorem PM.to6 {v : Nat} {a b nd : Int} (h : PM v a b nd) (hb : b = 6) : a = 5 ∨ a = 6 := by
  cases h <;> omega
theorem PM.to16 {v : Nat} {a b nd : Int} (h : PM v a b nd) (hb : b = 16) : a = 15 ∨ a = 16 := by
  cases h <;> omega

/-- P15's rounds. -/
def calmR (c : Conf) : Int := (c.procs + 1) * (c.drain + 8) + (c.depth + 1) * (c.spin + 12)

def PatQ (c : Conf) (q : PP) : Prop := (q.phase = 6 → 0 ≤ q.pat ∧ q.pat ≤ c.spin) ∧ (q.phase = 16 → 0 ≤ q.pat ∧ q.pat ≤ c.drain)
def PatOk (c : Conf) (L : Lay) : Prop := ∀ i, (hi : i < L.procs.length) → PatQ c (toPP (L.procs[i]).2)

theorem WRel.drain0 {c : Conf} {L : Lay} {P : PLay} (h : WRel c L P) : 0 ≤ c.drain ∧ c.drain ≤ 16 := by
  have := h.may
  simp [mayC] at this
  omega

theorem CQ.kp {c : Conf} {H : Nat → Hist} {p : Pr} (h : CQ c H p) : KP p.kind p.phase :=
  ⟨h.walk, fun hk => by
    rcases (h.chg hk).2.2 with x | x | x | x
    · omega
    · omega
    · omega
    · omega⟩

theorem CRel.sq {c : Conf} {L : Lay} {P : PLay} (h : CRel c L P) (pk : PatOk c L) {i : Nat} (hi : i < L.procs.length) (hl : (L.procs[i]).2.phase ≠ 20) (draw : Int) :
    ∃ v q', SQ c (toPPs L.procs) i v (toPP (L.procs[i]).2) q' ∧ toPPs (lstep L i draw).procs = (toPPs L.procs).set i q' ∧ PatOk c (lstep L i draw) ∧ (∃ P', CRel c (lstep L i draw) P') := by
  obtain ⟨v, n, hh⟩ := h.rel.here hi hl
  obtain ⟨p', hw, hf⟩ := hh.facts h.ck draw
  obtain ⟨⟨P', hr'⟩, _⟩ := h.again hi hl draw
  have hlen := went_len hw
  have hi' : i < (lstep L i draw).procs.length := by omega
  have hself := went_self hw hi'
  obtain ⟨s1, s2, s3, s4, s5, s6, s7⟩ := pp_told hself
  have hpat : ((lstep L i draw).procs[i]).2.pat = p'.pat := by
    have := hself
    unfold toPP at this
    simp only [PP.mk.injEq] at this
    exact this.2.2.2.2.2.2.2.2.2.1
  have hlenp := h.rel.len
  have hd0 := h.rel.drain0
  have hcf := h.rel.confs
  have hpk := pk i hi
  refine ⟨v, toPP p', ?_, hw.procs, ?_, P', hr'⟩
  · have hq' := hr'.rel.qs i hi'
    have hcq' := (hr'.ck.ci.cq i hi').kp
    rw [s4, s1] at hcq'
    have hcq := (h.ck.ci.cq i hi).kp
    refine ⟨by rw [toPPs_len]; exact hi, toPPs_at _ _ hi _, hh.at', hh.v1, hh.v32, by rw [← hlenp]; exact hh.vN, hw.op.1, hw.pm, hcq, ?_, fun a b => ?_, fun h20 => ?_, ?_, fun a => ⟨(hpk.1 a).1, fun b => (hf.wait a b).1⟩, hf.claim, hf.shut, fun a => ⟨(hpk.2 a).1, fun b => (hf.drain a b).1⟩, by omega, hd0.1⟩
    · have := hcq'
      rw [hw.op.1] at this
      exact this
    · have := hh.q.inner a b
      rw [hh.at', Int.toNat_natCast] at this
      rw [← hlenp]
      exact (h.rel.kids v hh.v1 hh.vN this).1
    · obtain ⟨u, a, b, d, _⟩ := hq'.live (by rw [s4]; exact h20)
      exact ⟨u, by rw [← a, s5]; rfl, b, by rw [← hr'.rel.len]; exact d⟩
    · intro a
      rw [shQ_pps]
      exact hf.look a
  · intro j hj
    by_cases e : j = i
    · subst e
      rw [hself]
      refine ⟨fun a => ?_, fun a => ?_⟩
      · have a' : p'.phase = 6 := a
        show 0 ≤ p'.pat ∧ p'.pat ≤ c.spin
        have hpm := hw.pm
        have : (L.procs[j]).2.phase = 5 ∨ (L.procs[j]).2.phase = 6 := by
          exact hpm.to6 a'
        rcases this with x | x
        · have := hf.claim x a'
          omega
        · have h1 := hf.wait x a'
          have h2 : (L.procs[j]).2.pat ≤ c.spin := (hpk.1 x).2
          omega
      · have a' : p'.phase = 16 := a
        show 0 ≤ p'.pat ∧ p'.pat ≤ c.drain
        have hpm := hw.pm
        have : (L.procs[j]).2.phase = 15 ∨ (L.procs[j]).2.phase = 16 := by
          exact hpm.to16 a'
        rcases this with x | x
        · have := hf.shut x a'
          omega
        · have h1 := hf.drain x a'
          have h2 : (L.procs[j]).2.pat ≤ c.drain := (hpk.2 x).2
          omega
    · have hj0 : j < L.procs.length := by omega
      rw [went_other hw j hj0 hj e]
      exact pk j hj0

theorem hold_range (r k ph pat : Int) (hr : 0 ≤ r) (hp : ph = 16 → 0 ≤ pat ∧ pat ≤ r) : 0 ≤ holdW r k ph pat ∧ holdW r k ph pat ≤ r + 6 ∧ (ph = 20 → holdW r k ph pat = 0) := by
  unfold holdW
  by_cases h16 : ph = 16
  · have := hp h16
    rw [if_pos h16]
    omega
  · rw [if_neg h16]
    split
    · omega
    · split
      · omega
      · split
        · omega
        · split <;> omega

theorem sum_hold {c : Conf} (hr : 0 ≤ c.drain) : ∀ ps : Prs, (∀ i, (hi : i < ps.length) → PatQ c (toPP (ps[i]).2)) → 0 ≤ sumQ (holdQ c) (toPPs ps) ∧ sumQ (holdQ c) (toPPs ps) ≤ (liveL ps : Int) * (c.drain + 6) ∧ ∀ i, (hi : i < ps.length) → holdQ c (toPP (ps[i]).2) ≤ sumQ (holdQ c) (toPPs ps)
  | [], _ => by simp [toPPs, sumQ, liveL]
  | x :: r, h => by
    obtain ⟨a, b, d⟩ := sum_hold hr r (fun i hi => by have := h (i + 1) (by simpa using hi); simpa using this)
    have h0 := h 0 (by simp)
    simp only [List.getElem_cons_zero] at h0
    obtain ⟨h1, h2, h3⟩ := hold_range c.drain x.2.kind x.2.phase x.2.pat hr h0.2
    have e : sumQ (holdQ c) (toPPs (x :: r)) = holdW c.drain x.2.kind x.2.phase x.2.pat + sumQ (holdQ c) (toPPs r) := rfl
    rw [e]
    refine ⟨by omega, ?_, fun i hi => ?_⟩
    · simp only [liveL]
      by_cases e20 : x.2.phase = 20
      · rw [if_pos e20, h3 e20]
        simpa using b
      · rw [if_neg e20]
        have : ((1 + liveL r : Nat) : Int) * (c.drain + 6) = (c.drain + 6) + (liveL r : Int) * (c.drain + 6) := by push_cast; rw [Int.add_mul]; omega
        rw [this]
        omega
    · cases i with
      | zero =>
        show holdW c.drain x.2.kind x.2.phase x.2.pat ≤ _
        omega
      | succ i =>
        have := d i (by simpa using hi)
        simp only [List.getElem_cons_succ]
        omega

theorem AA_le (D : Nat) (s : Int) (hs : 0 ≤ s) : ∀ k, k ≤ D → AA D s k ≤ AA D s D := by
  have step : ∀ m k, AA D s k ≤ AA D s (k + m) := by
    intro m
    induction m with
    | zero => intro k; exact Int.le_refl _
    | succ m ih => intro k; have := ih k; show AA D s k ≤ AA D s (k + m) + s + 8; omega
  intro k hk
  have := step (D - k) k
  rwa [show k + (D - k) = D by omega] at this
theorem AA_top (s : Int) (D : Nat) (hD : D ≤ 4) : AA D s D + 1 ≤ ((D : Int) + 1) * (s + 12) + 8 ∨ s < 0 := by
  have : D = 0 ∨ D = 1 ∨ D = 2 ∨ D = 3 ∨ D = 4 := by omega
  rcases this with rfl | rfl | rfl | rfl | rfl <;> simp [AA] <;> omega

theorem work_range {D : Nat} (hD : D ≤ 4) {s r : Int} (hs : 0 ≤ s) (hr : 0 ≤ r) (sh : Bool) (k ph pat : Int) (d : Nat) (hd : d ≤ D) (h6 : ph = 6 → 0 ≤ pat ∧ pat ≤ s) (h16 : ph = 16 → 0 ≤ pat ∧ pat ≤ r) (hin : 3 ≤ ph → ph ≤ 11 → d < D) (h0 : 0 ≤ ph ∧ ph ≤ 19) :
    1 ≤ work D s r sh k ph pat d ∧ work D s r sh k ph pat d ≤ ((D : Int) + 1) * (s + 12) + (r + 8) := by
  have g0 := AA_ge D s hs (D - d)
  have g1 := AA_ge D s hs (D - (d + 1))
  have l0 := AA_le D s hs (D - d) (by omega)
  have gd := AA_down D s (d := d)
  have gt := AA_top s D hD
  have hb : (D : Int) + 6 ≤ ((D : Int) + 1) * (s + 12) ∧ 3 * (D : Int) ≤ ((D : Int) + 1) * (s + 12) := by
    have : D = 0 ∨ D = 1 ∨ D = 2 ∨ D = 3 ∨ D = 4 := by omega
    rcases this with rfl | rfl | rfl | rfl | rfl <;> simp <;> omega
  generalize ((D : Int) + 1) * (s + 12) = T at *
  generalize AA D s D = AT at *
  have hbase : (D : Int) + 5 ≤ baseW D s r k d ∧ baseW D s r k d + 1 ≤ T + (r + 8) := by
    unfold baseW
    split <;> omega
  have hx : ph = 0 ∨ ph = 1 ∨ ph = 2 ∨ ph = 3 ∨ ph = 4 ∨ ph = 5 ∨ ph = 6 ∨ ph = 7 ∨ ph = 8 ∨ ph = 9 ∨ ph = 10 ∨ ph = 11 ∨ ph = 12 ∨ ph = 13 ∨ ph = 14 ∨ ph = 15 ∨ ph = 16 ∨ ph = 17 ∨ ph = 18 ∨ ph = 19 := by omega
  replace h6 : Hid _ := h6
  replace h16 : Hid _ := h16
  replace hin : Hid _ := hin
  replace gd : Hid _ := gd
  clear h0
  rcases hx with rfl | rfl | rfl | rfl | rfl | rfl | rfl | rfl | rfl | rfl | rfl | rfl | rfl | rfl | rfl | rfl | rfl | rfl | rfl | rfl
  · cases sh <;> simp [work] <;> omega
  · simp [work]; omega
  · cases sh <;> simp [work] <;> omega
  · simp [work]; omega
  · simp [work]; omega
  · simp [work]; omega
  · have := h6.out rfl
    have := gd.out (hin.out (by decide) (by decide))
    simp [work]; omega
  · have := gd.out (hin.out (by decide) (by decide))
    simp [work]; omega
  · have := gd.out (hin.out (by decide) (by decide))
    simp [work]; omega
  · have := gd.out (hin.out (by decide) (by decide))
    simp [work]; omega
  · have := gd.out (hin.out (by decide) (by decide))
    simp [work]; omega
  · have := gd.out (hin.out (by decide) (by decide))
    simp [work]; omega
  · simp [work]; omega
  · simp [work]; omega
  · simp [work]; omega
  · simp [work]; omega
  · have := h16.out rfl
    simp [work]; omega
  · simp [work]; omega
  · simp [work]; omega
  · simp [work]; omega

end Go.Proofs.Ytjnmpejcegmkhab
