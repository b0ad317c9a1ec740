/- How long a process may still be on its way (P15), of the document's tree alone. How long a process may still be on its way (P15): what one Step does to it. How long a process may still be on its way (P15): a bound that falls with every round. How long a process may still be on its way (P15): rounds. How long a process may still be on its way (P15): the bound itself, and the steps of the document's tree. No statement of the seat is proved here. What has gone in lies in the leaves, or is on its way (the document's tree alone). No statement of the seat is proved here. Of every value as much lies in the leaves as Puts have brought and Gets have not taken (the document's tree alone): what a history holds. No statement of the seat is proved here. Of every value as much lies in the leaves as Puts have brought and Gets have not taken: through every Step (the document's tree alone). No statement of the seat is proved here. -/
import Derived.Test.YtjnmpejcegmkhabNew0
namespace Go.Proofs.Ytjnmpejcegmkhab
open Go.RowKit

/-- A walker's way from before a node, k levels above the deepest. -/
def AA (D : Nat) (s : Int) : Nat → Int
  | 0 => (D : Int) + 5
  | k + 1 => AA D s k + s + 8
theorem AA_ge (D : Nat) (s : Int) (hs : 0 ≤ s) : ∀ k, (D : Int) + 5 ≤ AA D s k
  | 0 => Int.le_refl _
  | k + 1 => by have := AA_ge D s hs k; simp only [AA]; omega
theorem AA_down (D : Nat) (s : Int) {d : Nat} (h : d < D) : AA D s (D - d) = AA D s (D - (d + 1)) + s + 8 := by
  have e : D - d = (D - (d + 1)) + 1 := by omega
  rw [e]
  rfl
def baseW (D : Nat) (s r k : Int) (d : Nat) : Int := if k < 3 then AA D s (D - d) else 2 * ((D : Int) - d) + D + r + 7

/-- How many rounds a process has before it, but for shut gates. -/
def work (D : Nat) (s r : Int) (sh : Bool) (k ph pat : Int) (d : Nat) : Int :=
  if ph = 0 then (if sh = true then baseW D s r k d - 1 else baseW D s r k d)
  else if ph = 1 then baseW D s r k d - 1
  else if ph = 2 then (if sh = true then baseW D s r k d - 1 else baseW D s r k d + 1)
  else if ph = 3 then AA D s (D - d) - 2
  else if ph = 4 then AA D s (D - d) - 3
  else if ph = 5 then AA D s (D - d) - 4
  else if ph = 6 then AA D s (D - (d + 1)) + 3 + pat
  else if ph = 7 then AA D s (D - (d + 1)) + 1
  else if ph = 8 then AA D s (D - (d + 1)) + 3
  else if ph = 9 then AA D s (D - (d + 1)) + 2
  else if ph = 10 then AA D s (D - (d + 1)) + 2
  else if ph = 11 then AA D s (D - (d + 1)) + 1
  else if ph = 12 then D + 3
  else if ph = 13 then D + 2
  else if ph = 14 then D + 2
  else if ph = 15 then D + r + 5
  else if ph = 16 then D + 4 + pat
  else if ph = 17 then D + 3
  else if ph = 18 then D + 3
  else if ph = 19 then d + 1
  else 0

/-- How long others may still be held up by it. -/
def holdW (r k ph pat : Int) : Int :=
  if ph = 16 then pat + 5 else if ph = 17 then 4 else if ph = 18 then 4 else if ph = 15 then r + 6
  else if 3 ≤ k ∧ (ph = 0 ∨ ph = 1 ∨ ph = 2) then r + 6 else 0

/-- Where a process may be, by its kind. -/
structure KP (k ph : Int) : Prop where
  walk : k < 3 → ¬ (15 ≤ ph ∧ ph ≤ 18)
  chg : 3 ≤ k → ph = 0 ∨ ph = 1 ∨ ph = 2 ∨ 15 ≤ ph

set_option maxHeartbeats 4000000 in
theorem work_own {D : Nat} {s r : Int} (hs : 0 ≤ s) (hr : 0 ≤ r) {v : Nat} {a b nd : Int} (hpm : PM v a b nd) (sh sh' : Bool) (k pat pat' : Int) (d d' : Nat) (ka : KP k a) (kb : KP k b) (hdD : d ≤ D) (hd'D : b ≠ 20 → d' ≤ D)
    (hin : 3 ≤ a → a ≤ 11 → d < D) (hd0 : nd = (v : Int) → d' = d) (hd1 : nd / 2 = (v : Int) → d' = d + 1) (hdu : nd = (v : Int) / 2 → (v : Int) / 2 ≠ 0 → d = d' + 1)
    (hsh : a ≤ 2 → b ≤ 2 → nd = (v : Int) → sh' = sh) (h1 : a = 1 → (b = 2 ↔ sh = true)) (h6 : a = 6 → 0 ≤ pat) (h66 : a = 6 → b = 6 → pat' = pat - 1) (h5 : a = 5 → b = 6 → pat' = s) (h15 : a = 15 → b = 16 → pat' = r) (h16 : a = 16 → 0 ≤ pat) (h161 : a = 16 → b = 16 → pat' = pat - 1)
    (hst : ¬ (a = 13 ∧ b = 13) ∧ ¬ (a = 14 ∧ b = 14)) :
    (¬ (a ≤ 2 ∧ sh = true) → work D s r sh' k b pat' d' + 1 ≤ work D s r sh k a pat d) ∧ work D s r sh' k b pat' d' ≤ work D s r sh k a pat d := by
  have g0 := AA_ge D s hs (D - d)
  have g1 := AA_ge D s hs (D - (d + 1))
  have gd := AA_down D s (d := d)
  replace gd : Hid _ := gd
  replace hin : Hid _ := hin
  replace hd0 : Hid _ := hd0
  replace hd1 : Hid _ := hd1
  replace hdu : Hid _ := hdu
  replace hsh : Hid _ := hsh
  replace h1 : Hid _ := h1
  replace h6 : Hid _ := h6
  replace h66 : Hid _ := h66
  replace h5 : Hid _ := h5
  replace h15 : Hid _ := h15
  replace h16 : Hid _ := h16
  replace h161 : Hid _ := h161
  replace hst : Hid _ := hst
  replace hd'D : Hid _ := hd'D
  cases hpm using PM.elim
  case enter =>
    have e := hd0.out rfl
    subst e
    have e2 := hsh.out (by decide) (by decide) rfl
    subst e2
    cases sh' <;> simp [work] <;> omega
  case look hb =>
    have e := hd0.out rfl
    subst e
    have h1' := h1.out rfl
    rcases hb with rfl | rfl | rfl | rfl
    · have e2 := hsh.out (by decide) (by decide) rfl
      have e3 := h1'.1 rfl
      subst e2 e3
      simp [work]
    · have e3 : sh = false := by cases sh; rfl; exact absurd (h1'.2 rfl) (by decide)
      subst e3
      have : k < 3 := Int.not_le.1 fun h => by rcases kb.chg h with x | x | x | x <;> revert x <;> decide
      simp [work, baseW, this]
      omega
    · have e3 : sh = false := by cases sh; rfl; exact absurd (h1'.2 rfl) (by decide)
      subst e3
      have : k < 3 := Int.not_le.1 fun h => by rcases kb.chg h with x | x | x | x <;> revert x <;> decide
      simp [work, baseW, this]
      omega
    · have e3 : sh = false := by cases sh; rfl; exact absurd (h1'.2 rfl) (by decide)
      subst e3
      simp only [work, baseW]
      simp
      split <;> omega
  case lookDown hb hn =>
    have e := hd1.out hn
    have h1' := h1.out rfl
    have hb2 : b ≠ 2 := by rcases hb with rfl | rfl <;> decide
    have e3 : sh = false := by cases sh; rfl; exact absurd (h1'.2 rfl) hb2
    have hdd := hd'D.out (by rcases hb with rfl | rfl <;> decide)
    subst e e3
    have gd' := gd.out (by omega)
    rcases hb with rfl | rfl
    · cases sh' <;> simp [work, baseW] <;> split <;> omega
    · have hk : ¬ k < 3 := fun h => kb.walk h (by decide)
      simp [work, baseW, hk]
      omega
  case back =>
    have e := hd0.out rfl
    subst e
    have e2 := hsh.out (by decide) (by decide) rfl
    subst e2
    cases sh' <;> simp [work] <;> omega
  case wide =>
    have e := hd0.out rfl
    subst e
    simp [work]
    omega
  case slot hb =>
    have e := hd0.out rfl
    subst e
    have gd' := gd.out (hin.out (by decide) (by decide))
    rcases hb with rfl | rfl | rfl <;> simp [work] <;> omega
  case claim hb =>
    have e := hd0.out rfl
    subst e
    have gd' := gd.out (hin.out (by decide) (by decide))
    rcases hb with rfl | rfl
    · have := h5.out rfl rfl
      simp [work]
      omega
    · simp [work]
      omega
  case wait hb =>
    have e := hd0.out rfl
    subst e
    have h6' := h6.out rfl
    rcases hb with rfl | rfl | rfl
    · simp [work]
      omega
    · have := h66.out rfl rfl
      simp [work]
      omega
    · simp [work]
      omega
  case down ha hn =>
    have e := hd1.out hn
    subst e
    have hk : k < 3 := Int.not_le.1 fun h => by rcases ha with rfl | rfl | rfl <;> rcases ka.chg h with x | x | x | x <;> revert x <;> decide
    rcases ha with rfl | rfl | rfl <;> cases sh' <;> simp [work, baseW, hk] <;> omega
  case out ha =>
    have e := hd0.out rfl
    subst e
    rcases ha with rfl | rfl <;> simp [work] <;> omega
  case grow =>
    have e := hd0.out rfl
    subst e
    simp [work]
    omega
  case width ha =>
    have e := hd0.out rfl
    subst e
    rcases ha with rfl | rfl <;> simp [work] <;> omega
  case ticket hb =>
    have e := hd0.out rfl
    subst e
    rcases hb with rfl | rfl | rfl <;> simp [work] <;> omega
  case store hb =>
    have e := hd0.out rfl
    subst e
    rcases hb with rfl | rfl
    · simp [work]
      omega
    · exact absurd ⟨rfl, rfl⟩ hst.out.1
  case fetch hb =>
    have e := hd0.out rfl
    subst e
    rcases hb with rfl | rfl
    · simp [work]
      omega
    · exact absurd ⟨rfl, rfl⟩ hst.out.2
  case shut =>
    have e := hd0.out rfl
    subst e
    have := h15.out rfl rfl
    simp [work]
    omega
  case drain hb =>
    have e := hd0.out rfl
    subst e
    have h16' := h16.out rfl
    rcases hb with rfl | rfl | rfl
    · simp [work]
      omega
    · have := h161.out rfl rfl
      simp [work]
      omega
    · simp [work]
      omega
  case up hv ha =>
    have e := hdu.out rfl hv
    rcases ha with rfl | rfl | rfl | rfl <;> simp [work] <;> omega
  case done hv ha =>
    rcases ha with rfl | rfl | rfl | rfl <;> simp [work] <;> omega

theorem toPPs_setP_get {i : Nat} {l : List PP} {x y : PP} (hi : i < l.length) (h : l.set i x = l.set i y) : x = y := by
  have := congrArg (fun z => z[i]?) h
  simpa [hi] using this
theorem shutL_inc (L : Lay) (i : Nat) (hi : i < L.procs.length) (u : Int) : shutL u (L.setP i (incPr (L.procs[i]).2)).procs = shutL u L.procs := by
  refine shutL_set u L.procs i hi _ ?_
  rfl
section
variable {c : Conf} {L : Lay} {P : PLay} {i v : Nat} {p : Pr} {n : PN}

structure Facts (c : Conf) (sh : Bool) (p p' : Pr) : Prop where
  look : p.phase = 1 → (p'.phase = 2 ↔ sh = true)
  wait : p.phase = 6 → p'.phase = 6 → p'.pat = p.pat - 1 ∧ 0 < p.pat
  claim : p.phase = 5 → p'.phase = 6 → p'.pat = c.spin
  shut : p.phase = 15 → p'.phase = 16 → p'.pat = c.drain
  drain : p.phase = 16 → p'.phase = 16 → p'.pat = p.pat - 1 ∧ 0 < p.pat

theorem Here.facts (h : Here c L P i v p n) (ck : CK c L P) (draw : Int) : ∃ p', Went L i v p p' (lstep L i draw) ∧ Facts c (shutL v L.procs) p p' := by
  obtain ⟨p', hw⟩ := h.went ck draw
  refine ⟨p', hw, ?_⟩
  have hi := h.hi
  have hcL := h.rel.cL
  have key : p.phase ≠ 8 ∧ p.phase ≠ 9 ∧ p.phase ≠ 10 ∧ p.phase ≠ 11 ∧ p.phase ≠ 12 ∧ p.phase ≠ 13 ∧ p.phase ≠ 14 ∧ p.phase ≠ 17 → toPP p' = toPP (lmove (L.setP i (incPr p)) v (incPr p) draw) := by
    rintro ⟨h1, h2, h3, h4, h5, h6, h7, h8⟩
    have el : lstep L i draw = (L.setP i (incPr p)).setP i (lmove (L.setP i (incPr p)) v (incPr p) draw) := by
      rw [h.lat draw, h.lget]
      simp only [h1, h2, h3, h4, h5, h6, h7, h8, if_false]
    have e2 : ∀ q : Pr, toPPs ((L.setP i (incPr p)).setP i q).procs = (toPPs L.procs).set i (toPP q) := by
      intro q
      rw [toPPs_setP, toPPs_setP, List.set_set]
    have e := hw.procs
    rw [el, e2] at e
    exact (toPPs_setP_get (by rw [toPPs_len]; exact hi) e).symm
  have hsh : shutL (v : Int) (L.setP i (incPr p)).procs = shutL v L.procs := by
    have := shutL_inc L i hi v
    rw [h.ep] at this
    exact this
  have fld : ∀ q : Pr, toPP p' = toPP q → p'.phase = q.phase ∧ p'.pat = q.pat := by
    intro q e
    unfold toPP at e
    simp only [PP.mk.injEq] at e
    exact ⟨e.2.2.2.1, e.2.2.2.2.2.2.2.2.2.1⟩
  refine ⟨fun e1 => ?_, fun e1 e2 => ?_, fun e1 e2 => ?_, fun e1 e2 => ?_, fun e1 e2 => ?_⟩
  · obtain ⟨a, _⟩ := fld _ (key (by omega))
    rw [a]
    unfold lmove
    rw [if_neg (show ¬ (incPr p).phase = 0 by show ¬ p.phase = 0; omega), if_pos (show (incPr p).phase = 1 from e1), hsh]
    cases hs : shutL (v : Int) L.procs
    · simp only [Bool.false_eq_true, if_false, iff_false]
      split
      · show ¬ (if _ then (3 : Int) else 12) = 2
        split <;> decide
      · split
        · show ¬ (if _ then (15 : Int) else 0) = 2
          split <;> decide
        · show ¬ (19 : Int) = 2
          decide
    · simp
  · obtain ⟨a, b⟩ := fld _ (key (by omega))
    rw [a] at e2
    rw [b]
    unfold lmove at e2 ⊢
    have e : (incPr p).phase = 6 := e1
    rw [if_neg (by omega), if_neg (by omega), if_neg (by omega), if_neg (by omega), if_neg (by omega), if_neg (by omega), if_pos e] at e2 ⊢
    unfold waitPr at e2 ⊢
    split at e2
    · exact absurd e2 (by show ¬ (7 : Int) = 6; decide)
    · rename_i hm
      rw [if_neg hm]
      split at e2
      · rename_i hp
        rw [if_pos hp]
        exact ⟨rfl, hp⟩
      · exact absurd e2 (by show ¬ (10 : Int) = 6; decide)
  · obtain ⟨a, b⟩ := fld _ (key (by omega))
    rw [a] at e2
    rw [b]
    unfold lmove at e2 ⊢
    have e : (incPr p).phase = 5 := e1
    rw [if_neg (by omega), if_neg (by omega), if_neg (by omega), if_neg (by omega), if_neg (by omega), if_pos e] at e2 ⊢
    split at e2
    · rename_i hm
      rw [if_pos hm]
      show L.c.spin = c.spin
      rw [hcL]
    · exact absurd e2 (by show ¬ (9 : Int) = 6; decide)
  · obtain ⟨a, b⟩ := fld _ (key (by omega))
    rw [a] at e2
    rw [b]
    unfold lmove at e2 ⊢
    have e : (incPr p).phase = 15 := e1
    rw [if_neg (by omega), if_neg (by omega), if_neg (by omega), if_neg (by omega), if_neg (by omega), if_neg (by omega), if_neg (by omega), if_neg (by omega), if_pos e] at e2 ⊢
    unfold shutCh at e2 ⊢
    split at e2
    · exfalso
      revert e2
      unfold upPr
      simp only
      split <;> decide
    · rename_i hm
      rw [if_neg hm]
      show L.c.drain = c.drain
      rw [hcL]
  · obtain ⟨a, b⟩ := fld _ (key (by omega))
    rw [a] at e2
    rw [b]
    unfold lmove at e2 ⊢
    have e : (incPr p).phase = 16 := e1
    rw [if_neg (by omega), if_neg (by omega), if_neg (by omega), if_neg (by omega), if_neg (by omega), if_neg (by omega), if_neg (by omega), if_neg (by omega), if_neg (by omega), if_pos e] at e2 ⊢
    unfold drainCh at e2 ⊢
    split at e2
    · exact absurd e2 (by show ¬ (17 : Int) = 16; decide)
    · rename_i hm
      rw [if_neg hm]
      split at e2
      · rename_i hp
        rw [if_pos hp]
        exact ⟨rfl, hp⟩
      · exact absurd e2 (by show ¬ (18 : Int) = 16; decide)
end

def sumQ (f : PP → Int) : List PP → Int
  | [] => 0
  | q :: r => f q + sumQ f r
theorem sumQ_set (f : PP → Int) : ∀ (l : List PP) (i : Nat) (hi : i < l.length) (q : PP), sumQ f (l.set i q) + f l[i] = sumQ f l + f q
  | [], i, hi, _ => by simp at hi
  | y :: r, 0, _, q => by simp only [List.set_cons_zero, sumQ, List.getElem_cons_zero]; omega
  | y :: r, i + 1, hi, q => by
    have := sumQ_set f r i (by simpa using hi) q
    simp only [List.set_cons_succ, sumQ, List.getElem_cons_succ]
    omega

def inHold (u : Int) (q : PP) : Bool := decide (q.node = u) && (decide (q.phase = 16) || decide (q.phase = 17) || decide (q.phase = 18))
theorem inHold_iff (u : Int) (q : PP) : inHold u q = true ↔ q.node = u ∧ 16 ≤ q.phase ∧ q.phase ≤ 18 := by
  unfold inHold
  simp only [Bool.and_eq_true, Bool.or_eq_true, decide_eq_true_eq]
  omega
def shQ (u : Int) : List PP → Bool
  | [] => false
  | q :: r => inHold u q || shQ u r
theorem shQ_ex {u : Int} : ∀ {l : List PP}, shQ u l = true → ∃ x, ∃ hx : x < l.length, inHold u l[x] = true
  | [], h => by simp [shQ] at h
  | q :: r, h => by
    simp only [shQ, Bool.or_eq_true] at h
    rcases h with h | h
    · exact ⟨0, by simp, by simpa using h⟩
    · obtain ⟨x, hx, e⟩ := shQ_ex h
      exact ⟨x + 1, by simpa using hx, by simpa using e⟩
theorem shQ_set {u : Int} : ∀ (l : List PP) (i : Nat) (hi : i < l.length) (q : PP), inHold u q = inHold u l[i] → shQ u (l.set i q) = shQ u l
  | [], i, hi, _, _ => by simp at hi
  | y :: r, 0, _, q, h => by simp only [List.set_cons_zero, shQ, List.getElem_cons_zero] at *; rw [h]
  | y :: r, i + 1, hi, q, h => by
    simp only [List.set_cons_succ, shQ, List.getElem_cons_succ] at *
    rw [shQ_set r i (by simpa using hi) q h]
theorem shQ_pps (u : Int) : ∀ ps : Prs, shQ u (toPPs ps) = shutL u ps
  | [] => rfl
  | x :: r => by
    show (inHold u (toPP x.2) || shQ u (toPPs r)) = _
    rw [shQ_pps u r]
    rfl

def dQ (q : PP) : Nat := Nat.log2 q.node.toNat
def workQ (c : Conf) (sh : Bool) (q : PP) : Int := work c.depth.toNat c.spin c.drain sh q.kind q.phase q.pat (dQ q)
def holdQ (c : Conf) (q : PP) : Int := holdW c.drain q.kind q.phase q.pat
def phi (c : Conf) (l : List PP) (q : PP) : Int := workQ c (shQ q.node l) q + sumQ (holdQ c) l - holdQ c q
def arrived (q : PP) : Prop := q.phase = 13 ∨ q.phase = 14 ∨ q.phase = 19 ∨ q.phase = 20

/-- One Step, of the processes alone. -/
structure SQ (c : Conf) (l : List PP) (j v : Nat) (q q' : PP) : Prop where
  hj : j < l.length
  eq : l[j] = q
  at' : q.node = (v : Int)
  v1 : 1 ≤ v
  v32 : v < 32
  vD : v < 2 ^ (c.depth.toNat + 1)
  kind : q'.kind = q.kind
  pm : PM v q.phase q'.phase q'.node
  ka : KP q.kind q.phase
  kb : KP q.kind q'.phase
  inn : 3 ≤ q.phase → q.phase ≤ 11 → 2 * v + 1 < 2 ^ (c.depth.toNat + 1)
  node : q'.phase ≠ 20 → ∃ u : Nat, q'.node = (u : Int) ∧ 1 ≤ u ∧ u < 2 ^ (c.depth.toNat + 1)
  look : q.phase = 1 → (q'.phase = 2 ↔ shQ v l = true)
  wait : q.phase = 6 → 0 ≤ q.pat ∧ (q'.phase = 6 → q'.pat = q.pat - 1)
  claim : q.phase = 5 → q'.phase = 6 → q'.pat = c.spin
  shut : q.phase = 15 → q'.phase = 16 → q'.pat = c.drain
  drain : q.phase = 16 → 0 ≤ q.pat ∧ (q'.phase = 16 → q'.pat = q.pat - 1)
  spin0 : 0 ≤ c.spin
  drain0 : 0 ≤ c.drain

theorem log2_up : ∀ v : Fin 32, 1 ≤ v.1 → v.1 / 2 ≠ 0 → Nat.log2 v.1 = Nat.log2 (v.1 / 2) + 1 := by decide

theorem PM.live {v : Nat} {a b nd : Int} (h : PM v a b nd) : a ≠ 20 ∧ 0 ≤ a ∧ a ≤ 19 := by
  cases h <;> omega
theorem PM.low {v : Nat} {a b nd : Int} (h : PM v a b nd) (ha : a = 0 ∨ a = 2) : nd = (v : Int) ∧ b ≤ 2 := by
  cases h <;> omega
theorem PM.back1 {v : Nat} {a b nd : Int} (h : PM v a b nd) (ha : a = 1) (hb : b = 2) : nd = (v : Int) := by
  cases h <;> omega

theorem PM.to6 {v : Nat} {a b nd : Int} (h : PM v a b nd) (hb : b = 6) : a = 5 ∨ a = 6 := by
  cases h <;> omega
theorem PM.to16 {v : Nat} {a b nd : Int} (h : PM v a b nd) (hb : b = 16) : a = 15 ∨ a = 16 := by
  cases h <;> omega

/-- P15's rounds. -/
def calmR (c : Conf) : Int := (c.procs + 1) * (c.drain + 8) + (c.depth + 1) * (c.spin + 12)

def PatQ (c : Conf) (q : PP) : Prop := (q.phase = 6 → 0 ≤ q.pat ∧ q.pat ≤ c.spin) ∧ (q.phase = 16 → 0 ≤ q.pat ∧ q.pat ≤ c.drain)
def PatOk (c : Conf) (L : Lay) : Prop := ∀ i, (hi : i < L.procs.length) → PatQ c (toPP (L.procs[i]).2)

theorem WRel.drain0 {c : Conf} {L : Lay} {P : PLay} (h : WRel c L P) : 0 ≤ c.drain ∧ c.drain ≤ 16 := by
  have := h.may
  simp [mayC] at this
  omega

theorem CQ.kp {c : Conf} {H : Nat → Hist} {p : Pr} (h : CQ c H p) : KP p.kind p.phase :=
  ⟨h.walk, fun hk => by
    rcases (h.chg hk).2.2 with x | x | x | x
    · omega
    · omega
    · omega
    · omega⟩

theorem CRel.sq {c : Conf} {L : Lay} {P : PLay} (h : CRel c L P) (pk : PatOk c L) {i : Nat} (hi : i < L.procs.length) (hl : (L.procs[i]).2.phase ≠ 20) (draw : Int) :
    ∃ v q', SQ c (toPPs L.procs) i v (toPP (L.procs[i]).2) q' ∧ toPPs (lstep L i draw).procs = (toPPs L.procs).set i q' ∧ PatOk c (lstep L i draw) ∧ (∃ P', CRel c (lstep L i draw) P') := by
  obtain ⟨v, n, hh⟩ := h.rel.here hi hl
  obtain ⟨p', hw, hf⟩ := hh.facts h.ck draw
  obtain ⟨⟨P', hr'⟩, _⟩ := h.again hi hl draw
  have hlen := went_len hw
  have hi' : i < (lstep L i draw).procs.length := by omega
  have hself := went_self hw hi'
  obtain ⟨s1, s2, s3, s4, s5, s6, s7⟩ := pp_told hself
  have hpat : ((lstep L i draw).procs[i]).2.pat = p'.pat := by
    have := hself
    unfold toPP at this
    simp only [PP.mk.injEq] at this
    exact this.2.2.2.2.2.2.2.2.2.1
  have hlenp := h.rel.len
  have hd0 := h.rel.drain0
  have hcf := h.rel.confs
  have hpk := pk i hi
  refine ⟨v, toPP p', ?_, hw.procs, ?_, P', hr'⟩
  · have hq' := hr'.rel.qs i hi'
    have hcq' := (hr'.ck.ci.cq i hi').kp
    rw [s4, s1] at hcq'
    have hcq := (h.ck.ci.cq i hi).kp
    refine ⟨by rw [toPPs_len]; exact hi, toPPs_at _ _ hi _, hh.at', hh.v1, hh.v32, by rw [← hlenp]; exact hh.vN, hw.op.1, hw.pm, hcq, ?_, fun a b => ?_, fun h20 => ?_, ?_, fun a => ⟨(hpk.1 a).1, fun b => (hf.wait a b).1⟩, hf.claim, hf.shut, fun a => ⟨(hpk.2 a).1, fun b => (hf.drain a b).1⟩, by omega, hd0.1⟩
    · have := hcq'
      rw [hw.op.1] at this
      exact this
    · have := hh.q.inner a b
      rw [hh.at', Int.toNat_natCast] at this
      rw [← hlenp]
      exact (h.rel.kids v hh.v1 hh.vN this).1
    · obtain ⟨u, a, b, d, _⟩ := hq'.live (by rw [s4]; exact h20)
      exact ⟨u, by rw [← a, s5]; rfl, b, by rw [← hr'.rel.len]; exact d⟩
    · intro a
      rw [shQ_pps]
      exact hf.look a
  · intro j hj
    by_cases e : j = i
    · subst e
      rw [hself]
      refine ⟨fun a => ?_, fun a => ?_⟩
      · have a' : p'.phase = 6 := a
        show 0 ≤ p'.pat ∧ p'.pat ≤ c.spin
        have hpm := hw.pm
        have : (L.procs[j]).2.phase = 5 ∨ (L.procs[j]).2.phase = 6 := by
          exact hpm.to6 a'
        rcases this with x | x
        · have := hf.claim x a'
          omega
        · have h1 := hf.wait x a'
          have h2 : (L.procs[j]).2.pat ≤ c.spin := (hpk.1 x).2
          omega
      · have a' : p'.phase = 16 := a
        show 0 ≤ p'.pat ∧ p'.pat ≤ c.drain
        have hpm := hw.pm
        have : (L.procs[j]).2.phase = 15 ∨ (L.procs[j]).2.phase = 16 := by
          exact hpm.to16 a'
        rcases this with x | x
        · have := hf.shut x a'
          omega
        · have h1 := hf.drain x a'
          have h2 : (L.procs[j]).2.pat ≤ c.drain := (hpk.2 x).2
          omega
    · have hj0 : j < L.procs.length := by omega
      rw [went_other hw j hj0 hj e]
      exact pk j hj0

theorem hold_range (r k ph pat : Int) (hr : 0 ≤ r) (hp : ph = 16 → 0 ≤ pat ∧ pat ≤ r) : 0 ≤ holdW r k ph pat ∧ holdW r k ph pat ≤ r + 6 ∧ (ph = 20 → holdW r k ph pat = 0) := by
  unfold holdW
  by_cases h16 : ph = 16
  · have := hp h16
    rw [if_pos h16]
    omega
  · rw [if_neg h16]
    split
    · omega
    · split
      · omega
      · split
        · omega
        · split <;> omega

theorem sum_hold {c : Conf} (hr : 0 ≤ c.drain) : ∀ ps : Prs, (∀ i, (hi : i < ps.length) → PatQ c (toPP (ps[i]).2)) → 0 ≤ sumQ (holdQ c) (toPPs ps) ∧ sumQ (holdQ c) (toPPs ps) ≤ (liveL ps : Int) * (c.drain + 6) ∧ ∀ i, (hi : i < ps.length) → holdQ c (toPP (ps[i]).2) ≤ sumQ (holdQ c) (toPPs ps)
  | [], _ => by simp [toPPs, sumQ, liveL]
  | x :: r, h => by
    obtain ⟨a, b, d⟩ := sum_hold hr r (fun i hi => by have := h (i + 1) (by simpa using hi); simpa using this)
    have h0 := h 0 (by simp)
    simp only [List.getElem_cons_zero] at h0
    obtain ⟨h1, h2, h3⟩ := hold_range c.drain x.2.kind x.2.phase x.2.pat hr h0.2
    have e : sumQ (holdQ c) (toPPs (x :: r)) = holdW c.drain x.2.kind x.2.phase x.2.pat + sumQ (holdQ c) (toPPs r) := rfl
    rw [e]
    refine ⟨by omega, ?_, fun i hi => ?_⟩
    · simp only [liveL]
      by_cases e20 : x.2.phase = 20
      · rw [if_pos e20, h3 e20]
        simpa using b
      · rw [if_neg e20]
        have : ((1 + liveL r : Nat) : Int) * (c.drain + 6) = (c.drain + 6) + (liveL r : Int) * (c.drain + 6) := by push_cast; rw [Int.add_mul]; omega
        rw [this]
        omega
    · cases i with
      | zero =>
        show holdW c.drain x.2.kind x.2.phase x.2.pat ≤ _
        omega
      | succ i =>
        have := d i (by simpa using hi)
        simp only [List.getElem_cons_succ]
        omega

theorem AA_le (D : Nat) (s : Int) (hs : 0 ≤ s) : ∀ k, k ≤ D → AA D s k ≤ AA D s D := by
  have step : ∀ m k, AA D s k ≤ AA D s (k + m) := by
    intro m
    induction m with
    | zero => intro k; exact Int.le_refl _
    | succ m ih => intro k; have := ih k; show AA D s k ≤ AA D s (k + m) + s + 8; omega
  intro k hk
  have := step (D - k) k
  rwa [show k + (D - k) = D by omega] at this
theorem AA_top (s : Int) (D : Nat) (hD : D ≤ 4) : AA D s D + 1 ≤ ((D : Int) + 1) * (s + 12) + 8 ∨ s < 0 := by
  have : D = 0 ∨ D = 1 ∨ D = 2 ∨ D = 3 ∨ D = 4 := by omega
  rcases this with rfl | rfl | rfl | rfl | rfl <;> simp [AA] <;> omega

theorem work_range {D : Nat} (hD : D ≤ 4) {s r : Int} (hs : 0 ≤ s) (hr : 0 ≤ r) (sh : Bool) (k ph pat : Int) (d : Nat) (hd : d ≤ D) (h6 : ph = 6 → 0 ≤ pat ∧ pat ≤ s) (h16 : ph = 16 → 0 ≤ pat ∧ pat ≤ r) (hin : 3 ≤ ph → ph ≤ 11 → d < D) (h0 : 0 ≤ ph ∧ ph ≤ 19) :
    1 ≤ work D s r sh k ph pat d ∧ work D s r sh k ph pat d ≤ ((D : Int) + 1) * (s + 12) + (r + 8) := by
  have g0 := AA_ge D s hs (D - d)
  have g1 := AA_ge D s hs (D - (d + 1))
  have l0 := AA_le D s hs (D - d) (by omega)
  have gd := AA_down D s (d := d)
  have gt := AA_top s D hD
  have hb : (D : Int) + 6 ≤ ((D : Int) + 1) * (s + 12) ∧ 3 * (D : Int) ≤ ((D : Int) + 1) * (s + 12) := by
    have : D = 0 ∨ D = 1 ∨ D = 2 ∨ D = 3 ∨ D = 4 := by omega
    rcases this with rfl | rfl | rfl | rfl | rfl <;> simp <;> omega
  generalize ((D : Int) + 1) * (s + 12) = T at *
  generalize AA D s D = AT at *
  have hbase : (D : Int) + 5 ≤ baseW D s r k d ∧ baseW D s r k d + 1 ≤ T + (r + 8) := by
    unfold baseW
    split <;> omega
  have hx : ph = 0 ∨ ph = 1 ∨ ph = 2 ∨ ph = 3 ∨ ph = 4 ∨ ph = 5 ∨ ph = 6 ∨ ph = 7 ∨ ph = 8 ∨ ph = 9 ∨ ph = 10 ∨ ph = 11 ∨ ph = 12 ∨ ph = 13 ∨ ph = 14 ∨ ph = 15 ∨ ph = 16 ∨ ph = 17 ∨ ph = 18 ∨ ph = 19 := by omega
  replace h6 : Hid _ := h6
  replace h16 : Hid _ := h16
  replace hin : Hid _ := hin
  replace gd : Hid _ := gd
  clear h0
  rcases hx with rfl | rfl | rfl | rfl | rfl | rfl | rfl | rfl | rfl | rfl | rfl | rfl | rfl | rfl | rfl | rfl | rfl | rfl | rfl | rfl
  · cases sh <;> simp [work] <;> omega
  · simp [work]; omega
  · cases sh <;> simp [work] <;> omega
  · simp [work]; omega
  · simp [work]; omega
  · simp [work]; omega
  · have := h6.out rfl
    have := gd.out (hin.out (by decide) (by decide))
    simp [work]; omega
  · have := gd.out (hin.out (by decide) (by decide))
    simp [work]; omega
  · have := gd.out (hin.out (by decide) (by decide))
    simp [work]; omega
  · have := gd.out (hin.out (by decide) (by decide))
    simp [work]; omega
  · have := gd.out (hin.out (by decide) (by decide))
    simp [work]; omega
  · have := gd.out (hin.out (by decide) (by decide))
    simp [work]; omega
  · simp [work]; omega
  · simp [work]; omega
  · simp [work]; omega
  · simp [work]; omega
  · have := h16.out rfl
    simp [work]; omega
  · simp [work]; omega
  · simp [work]; omega
  · simp [work]; omega

end Go.Proofs.Ytjnmpejcegmkhab

namespace Go.Proofs.Ytjnmpejcegmkhab
open Go.RowKit

def balS (L : Lay) : Int := sumN (fun w => balH (L.hist w)) L.past.length
def TotOk (L : Lay) : Prop := balS L + sumP (tokP L.procs) L.procs = sumP (fun p => sgn p.kind) L.procs

theorem tokP_lo {ps : Ps} {p : Pr} (h : ¬ (p.phase = 6 ∨ p.phase = 7)) : tokP ps p = if p.phase ≤ 12 then sgn p.kind else 0 := by
  have : metB p = false := by
    unfold metB
    have h6 : ¬ p.phase = 6 := fun x => h (Or.inl x)
    have h7 : ¬ p.phase = 7 := fun x => h (Or.inr x)
    simp [h6, h7]
  unfold tokP
  rw [this]
  simp
theorem tokP_ch {ps : Ps} {p : Pr} (h : 3 ≤ p.kind) : tokP ps p = 0 := by
  have : sgn p.kind = 0 := by unfold sgn; rw [if_neg (by omega), if_neg (by omega)]
  unfold tokP
  rw [this]
  split <;> simp
theorem tokP_un {ps : Ps} {p : Pr} (h : p.phase = 6 ∨ p.phase = 7) (hm : p.met < 0) : tokP ps p = sgn p.kind := by
  have : metB p = false := by
    unfold metB
    have : ¬ 0 ≤ p.met := by omega
    simp [this]
  unfold tokP
  rw [this, if_pos (by omega)]
  simp
theorem tokP_met {ps : Ps} {p : Pr} (h : p.phase = 6 ∨ p.phase = 7) (hm : 0 ≤ p.met) : tokP ps p = if kindAt ps p.met = p.kind then sgn p.kind else 0 := by
  have : metB p = true := by
    unfold metB
    rcases h with x | x <;> simp [x, hm]
  unfold tokP
  rw [this, if_pos (by omega)]
  by_cases e : kindAt ps p.met = p.kind <;> simp [e]

theorem tok_set {ps : Ps} {i : Nat} (hi : i < ps.length) {x : Nat × Pr} (hk : x.2.kind = (ps[i]).2.kind) : tokP (ps.set i x) = tokP ps := by
  funext p
  unfold tokP
  rw [kindAt_set hi hk]
theorem sgn_set {ps : Ps} {i : Nat} (hi : i < ps.length) {x : Nat × Pr} (hk : x.2.kind = (ps[i]).2.kind) : sumP (fun p => sgn p.kind) (ps.set i x) = sumP (fun p => sgn p.kind) ps := by
  rw [sumP_set _ _ _ hi, hk]
  omega

theorem tot_one {L L' : Lay} (h : TotOk L) {i : Nat} (hi : i < L.procs.length) {pb : Nat} {p' : Pr} (hp : L'.procs = L.procs.set i (pb, p')) (hk : p'.kind = (L.procs[i]).2.kind) (hs : balS L' = balS L + (tokP L.procs (L.procs[i]).2 - tokP L.procs p')) : TotOk L' := by
  unfold TotOk at h ⊢
  rw [hp, tok_set hi hk, sgn_set hi hk, sumP_set _ _ _ hi]
  simp only
  omega

theorem balS_hap (L : Lay) (v : Nat) (x : Value) (ev : Ev) (iv : Value) (hv : v < L.past.length) : balS (L.hap v x ev iv) = balS L + (balH ((ev, iv) :: L.hist v) - balH (L.hist v)) := by
  unfold balS
  rw [hap_len]
  have := sumN_upd (fun w => balH (L.hist w)) (fun w => balH ((L.hap v x ev iv).hist w)) v L.past.length hv (fun k _ hne => by rw [hist_hap L v k x ev iv hv, if_neg hne])
  rw [this, hist_hap L v v x ev iv hv, if_pos rfl]
  omega

section
variable {c : Conf} {L : Lay} {P : PLay} {i v : Nat} {p : Pr} {n : PN}

theorem Here.tot (h : Here c L P i v p n) (ck : CK c L P) (draw : Int) (ht : TotOk L) : TotOk (lstep L i draw) := by
  have hi := h.hi
  have hep := h.ep
  have hv := h.vN
  have ha := h.at'
  have hph := h.q.phase
  have hlive := h.live
  have hcq := ck.ci.cq i hi
  rw [hep] at hcq
  have hkp := hcq.kp
  have stay : ∀ q p' : Pr, p'.kind = p.kind → tokP L.procs p' = tokP L.procs p → TotOk ((L.setP i q).setP i p') := by
    intro q p' e1 e2
    refine tot_one ht hi (pb := (L.procs.getD i (0, q)).1) (p' := p') ?_ (by rw [hep]; exact e1) ?_
    · show (L.procs.set i _).set i _ = _
      rw [List.set_set]
      congr 2
      simp [List.getD_eq_getElem?_getD, hi]
    · rw [hep, e2]
      show balS L = _
      omega
  have one : ∀ q p' : Pr, p'.kind = p.kind → tokP L.procs p' = tokP L.procs p → TotOk (L.setP i p') := by
    intro q p' e1 e2
    refine tot_one ht hi (pb := (L.procs.getD i (0, p')).1) (p' := p') rfl (by rw [hep]; exact e1) ?_
    rw [hep, e2]
    show balS L = _
    omega
  have happ : ∀ (q p' : Pr) (ev : Ev), p'.kind = p.kind → balH ((ev, nilV) :: L.hist v) - balH (L.hist v) = tokP L.procs p - tokP L.procs p' → TotOk (((L.setP i q).hap v nilV ev nilV).setP i p') := by
    intro q p' ev e1 e2
    refine tot_one ht hi (pb := (L.procs.getD i (0, q)).1) (p' := p') ?_ (by rw [hep]; exact e1) ?_
    · show (L.procs.set i _).set i _ = _
      rw [List.set_set]
      congr 2
      simp [List.getD_eq_getElem?_getD, hi]
    · rw [hep, ← e2]
      have := balS_hap (L.setP i q) v nilV ev nilV hv
      exact this
  rw [h.lat draw, h.lget]
  simp only
  by_cases e8 : p.phase = 8
  · rw [if_pos e8]
    obtain ⟨j, hm, hj, hji⟩ := h.q.mind e8
    have ej : p.mind.toNat = j := by omega
    rw [ej, List.getElem?_eq_getElem hj]
    simp only
    have tp : tokP L.procs p = sgn p.kind := by rw [tokP_lo (p := p) (by omega), if_pos (by omega)]
    split
    · rename_i hme
      unfold meets at hme
      simp only [Bool.and_eq_true, decide_eq_true_eq] at hme
      obtain ⟨⟨_, y6⟩, ymet⟩ := hme
      have hqj := (h.rel.qs j hj).kind
      have hqi := h.q.kind
      have hkj := (ck.ci.cq j hj).kp
      obtain ⟨y, hy⟩ : ∃ y, (L.procs[j]).2 = y := ⟨_, rfl⟩
      rw [hy] at y6 ymet hqj hkj ⊢
      have kp3 : p.kind < 3 := Int.not_le.1 fun x => by have := hkp.chg x; omega
      have kj3 : y.kind < 3 := Int.not_le.1 fun x => by have := hkj.chg x; omega
      have ty : tokP L.procs y = sgn y.kind := tokP_un (Or.inl y6) ymet
      have kat : kindAt L.procs (i : Int) = p.kind := by
        unfold kindAt
        simp [hi, hep]
      obtain ⟨y', hy'⟩ : ∃ y' : Pr, y' = { y with met := (i : Int) } := ⟨_, rfl⟩
      have ky' : y'.kind = y.kind := by rw [hy']
      have ty' : tokP L.procs y' = if p.kind = y.kind then sgn y.kind else 0 := by
        rw [tokP_met (p := y') (Or.inl (by rw [hy']; exact y6)) (by rw [hy']; show (0 : Int) ≤ (i : Int); omega), ky']
        have : y'.met = (i : Int) := by rw [hy']
        rw [this, kat]
      rw [← hy']
      have ts : tokP L.procs (settledPr (incPr p) y 1) = if p.kind = y.kind then sgn p.kind else 0 := by
        unfold settledPr
        by_cases e : p.kind = y.kind
        · rw [if_pos (show (incPr p).kind = y.kind from e), if_pos e, tokP_lo (by show ¬ ((0 : Int) = 6 ∨ (0 : Int) = 7); decide), if_pos (by show (0 : Int) ≤ 12; decide)]
        · rw [if_neg (show ¬ (incPr p).kind = y.kind from e), if_neg e]
          split
          · rw [tokP_lo (by show ¬ ((19 : Int) = 6 ∨ (19 : Int) = 7); decide), if_neg (by show ¬ (19 : Int) ≤ 12; decide)]
          · rw [tokP_lo (by show ¬ ((19 : Int) = 6 ∨ (19 : Int) = 7); decide), if_neg (by show ¬ (19 : Int) ≤ 12; decide)]
      have ks : (settledPr (incPr p) y 1).kind = p.kind := by
        unfold settledPr
        split
        · rfl
        · split <;> rfl
      have hbal : tokP L.procs y' + tokP L.procs (settledPr (incPr p) y 1) = tokP L.procs y + tokP L.procs p := by
        rw [ty', ts, ty, tp]
        by_cases e : p.kind = y.kind
        · rw [if_pos e, if_pos e]
        · rw [if_neg e, if_neg e]
          have : (p.kind = 1 ∧ y.kind = 2) ∨ (p.kind = 2 ∧ y.kind = 1) := by omega
          rcases this with ⟨a, b⟩ | ⟨a, b⟩ <;> rw [a, b] <;> rfl
      generalize settledPr (incPr p) y 1 = p' at *
      obtain ⟨a, b, eproc⟩ : ∃ a b, (((L.setP i (incPr p)).setP j y').setP i p').procs = (L.procs.set j (a, y')).set i (b, p') := by
        have e3 : ∀ x0 x1 x2 : Nat × Pr, ((L.procs.set i x0).set j x1).set i x2 = (L.procs.set j x1).set i x2 := by
          intro x0 x1 x2
          rw [List.set_comm _ _ (Ne.symm hji), List.set_set]
        exact ⟨_, _, e3 _ (_, y') (_, p')⟩
      unfold TotOk at ht ⊢
      have eb : balS (((L.setP i (incPr p)).setP j y').setP i p') = balS L := rfl
      rw [eproc, eb]
      have hij : i < (L.procs.set j (a, y')).length := by simpa using hi
      have egi : ((L.procs.set j (a, y'))[i]).2 = p := by rw [List.getElem_set_ne hji]; exact hep
      have kk1 : (b, p').2.kind = ((L.procs.set j (a, y'))[i]).2.kind := by rw [egi]; exact ks
      have kk2 : (a, y').2.kind = (L.procs[j]).2.kind := by rw [hy]; exact ky'
      rw [tok_set hij kk1, sgn_set hij kk1, tok_set hj kk2, sgn_set hj kk2, sumP_set _ _ _ hij, sumP_set _ _ _ hj, egi, hy]
      simp only
      omega
    · refine stay _ _ rfl ?_
      rw [tp, tokP_lo (by show ¬ ((9 : Int) = 6 ∨ (9 : Int) = 7); decide), if_pos (by show (9 : Int) ≤ 12; decide)]
  rw [if_neg e8]
  by_cases e9 : p.phase = 9
  · rw [if_pos e9]
    refine happ _ _ _ rfl ?_
    rw [(bal_over (L.hist v) ⟨5, _, 0, []⟩ nilV (by show (3 : Int) < 5; decide) (by show (5 : Int) ≠ 6; decide) (by show (5 : Int) ≠ 7; decide)).1, tokP_lo (p := p) (by omega), tokP_lo (by show ¬ ((11 : Int) = 6 ∨ (11 : Int) = 7); decide), if_pos (by omega), if_pos (by show (11 : Int) ≤ 12; decide)]
    show balH (L.hist v) - balH (L.hist v) = sgn p.kind - sgn p.kind
    omega
  rw [if_neg e9]
  by_cases e10 : p.phase = 10
  · rw [if_pos e10]
    refine happ _ _ _ rfl ?_
    rw [(bal_over (L.hist v) ⟨5, _, 0, []⟩ nilV (by show (3 : Int) < 5; decide) (by show (5 : Int) ≠ 6; decide) (by show (5 : Int) ≠ 7; decide)).1, tokP_lo (p := p) (by omega), tokP_lo (by show ¬ ((11 : Int) = 6 ∨ (11 : Int) = 7); decide), if_pos (by omega), if_pos (by show (11 : Int) ≤ 12; decide)]
    show balH (L.hist v) - balH (L.hist v) = sgn p.kind - sgn p.kind
    omega
  rw [if_neg e10]
  by_cases e11 : p.phase = 11
  · rw [if_pos e11]
    refine happ _ _ _ rfl ?_
    rw [(bal_over (L.hist v) ⟨4, 0, 0, []⟩ nilV (by show (3 : Int) < 4; decide) (by show (4 : Int) ≠ 6; decide) (by show (4 : Int) ≠ 7; decide)).1, tokP_lo (p := p) (by omega), tokP_lo (by show ¬ ((0 : Int) = 6 ∨ (0 : Int) = 7); decide), if_pos (by omega), if_pos (by show (0 : Int) ≤ 12; decide)]
    show balH (L.hist v) - balH (L.hist v) = sgn p.kind - sgn p.kind
    omega
  rw [if_neg e11]
  by_cases e12 : p.phase = 12
  · rw [if_pos e12]
    have hf := h.isLeaf (by omega) (by omega)
    have hb6 : balH ((⟨6, 0, 0, []⟩, nilV) :: L.hist v) - balH (L.hist v) = 1 := by
      unfold balH putsH
      simp [formH, fromH, manyH, hf]
      omega
    have hb7 : balH ((⟨7, 0, 0, []⟩, nilV) :: L.hist v) - balH (L.hist v) = -1 := by
      unfold balH putsH
      simp [formH, fromH, manyH, hf]
      omega
    have hk3 : p.kind < 3 := Int.not_le.1 fun x => by have := hkp.chg x; omega
    have hk0 := hcq.kinds
    have tp : tokP L.procs p = sgn p.kind := by rw [tokP_lo (p := p) (by omega), if_pos (by omega)]
    split
    · rename_i hk
      refine happ _ _ _ rfl ?_
      rw [hb6, tp, tokP_lo (by show ¬ ((19 : Int) = 6 ∨ (19 : Int) = 7); decide), if_neg (by show ¬ (19 : Int) ≤ 12; decide), hk]
      rfl
    · split
      · rename_i hk
        refine happ _ _ _ rfl ?_
        rw [hb6, tp, tokP_lo (by show ¬ ((13 : Int) = 6 ∨ (13 : Int) = 7); decide), if_neg (by show ¬ (13 : Int) ≤ 12; decide), hk]
        rfl
      · refine happ _ _ _ rfl ?_
        rw [hb7, tp, tokP_lo (by show ¬ ((14 : Int) = 6 ∨ (14 : Int) = 7); decide), if_neg (by show ¬ (14 : Int) ≤ 12; decide), show p.kind = 2 by omega]
        rfl
  rw [if_neg e12]
  by_cases e13 : p.phase = 13
  · rw [if_pos e13]
    split
    · refine happ _ _ _ rfl ?_
      rw [(bal_over (L.hist v) ⟨8, _, _, []⟩ nilV (by show (3 : Int) < 8; decide) (by show (8 : Int) ≠ 6; decide) (by show (8 : Int) ≠ 7; decide)).1, tokP_lo (p := p) (by omega), tokP_lo (by show ¬ ((19 : Int) = 6 ∨ (19 : Int) = 7); decide), if_neg (by omega), if_neg (by show ¬ (19 : Int) ≤ 12; decide)]
      omega
    · refine one p _ rfl ?_
      rw [tokP_lo (p := p) (by omega), tokP_lo (by show ¬ (p.phase = 6 ∨ p.phase = 7); omega)]
  rw [if_neg e13]
  by_cases e14 : p.phase = 14
  · rw [if_pos e14]
    split
    · refine happ _ _ _ rfl ?_
      rw [(bal_over (L.hist v) ⟨9, _, 0, []⟩ nilV (by show (3 : Int) < 9; decide) (by show (9 : Int) ≠ 6; decide) (by show (9 : Int) ≠ 7; decide)).1, tokP_lo (p := p) (by omega), tokP_lo (by show ¬ ((19 : Int) = 6 ∨ (19 : Int) = 7); decide), if_neg (by omega), if_neg (by show ¬ (19 : Int) ≤ 12; decide)]
      omega
    · refine one p _ rfl ?_
      rw [tokP_lo (p := p) (by omega), tokP_lo (by show ¬ (p.phase = 6 ∨ p.phase = 7); omega)]
  rw [if_neg e14]
  by_cases e17 : p.phase = 17
  · rw [if_pos e17]
    have tg := h.target17 ck e17
    have hkid := tg.kid
    have h1v := h.v1
    have hk3 : 3 ≤ p.kind := Int.not_lt.1 fun x => hkp.walk x (by omega)
    have upk : ∀ q : Pr, (upPr q).kind = q.kind := fun q => rfl
    have hcf := h.rel.confs
    have hcL := h.rel.cL
    have zero : ∀ (L' : Lay) (r : Int) (q : Pr), L'.procs = ((L.setP i q).setP i (upPr { incPr p with val := r })).procs → balS L' = balS L → TotOk L' := by
      intro L' r q e1 e2
      refine tot_one ht hi (pb := (L.procs.getD i (0, q)).1) (p' := upPr { incPr p with val := r }) ?_ (by rw [hep]; rfl) ?_
      · rw [e1]
        show (L.procs.set i _).set i _ = _
        rw [List.set_set]
        congr 2
        simp [List.getD_eq_getElem?_getD, hi]
      · rw [hep, e2, tokP_ch (p := p) hk3, tokP_ch (by show 3 ≤ p.kind; exact hk3)]
        omega
    split
    · rename_i hk4
      refine zero _ 1 (incPr p) rfl ?_
      have hf : formH (L.hist v) = 2 := by rw [tg.form, if_neg (by omega)]
      have hno : ∀ w, w / 2 = v → 2 ≤ w → w < L.past.length → formH (L.hist w) = 3 := by
        intro w hw h2 hwN
        by_cases f : formH (L.hist w) = 3
        · exact f
        · have := ck.ci.par w h2 hwN f
          rw [hw] at this
          omega
      have f0 := hno (2 * v) (by omega) (by omega) (by omega)
      have f1 := hno (2 * v + 1) (by omega) (by omega) hkid
      have b0 : balH (L.hist (2 * v)) = 0 := by unfold balH; rw [f0]; simp
      have b1 : balH (L.hist (2 * v + 1)) = 0 := by unfold balH; rw [f1]; simp
      have hN : unfN (L.setP i (incPr p)) v = balH (L.hist v) := by
        unfold unfN
        show (if L.c.kind = 0 then putsH (L.hist v) else ((itemsH (L.hist v)).length : Int)) = _
        rw [hcL]
        rcases hcf.1 with k0 | k1
        · rw [if_pos k0]; exact h.bal_count ck tg k0 v (Or.inl rfl) hf
        · rw [if_neg (by omega)]; exact h.bal_pool ck tg k1 v (Or.inl rfl) hf
      show balS ((L.setP i (incPr p)).unfolded v nilV nilV nilV nilV nilV) = balS L
      unfold Lay.unfolded
      rw [balS_hap _ _ _ _ _ (by simp; omega), balS_hap _ _ _ _ _ (by simp; omega), balS_hap _ _ _ _ _ (by exact hv), hN]
      have g1 : (((L.setP i (incPr p)).hap v nilV ⟨1, balH (L.hist v) % 2, 0, []⟩ nilV).hist (2 * v)) = L.hist (2 * v) := by rw [hap_hist _ _ _ _ _ _ (by exact hv) (by omega)]; rfl
      have g2 : ((((L.setP i (incPr p)).hap v nilV ⟨1, balH (L.hist v) % 2, 0, []⟩ nilV).hap (2 * v) nilV ⟨2, (balH (L.hist v) + 1) / 2, 0, evT (itemsH ((L.setP i (incPr p)).hist v)) (itemsH ((L.setP i (incPr p)).hist v)).length⟩ nilV).hist (2 * v + 1)) = L.hist (2 * v + 1) := by rw [hap_hist _ _ _ _ _ _ (by simp; omega) (by omega), hap_hist _ _ _ _ _ _ (by exact hv) (by omega)]; rfl
      rw [g1, g2, b0, b1]
      have gv : (L.setP i (incPr p)).hist v = L.hist v := rfl
      rw [gv]
      have eS : balS (L.setP i (incPr p)) = balS L := rfl
      rw [eS]
      have z0 : balH ((⟨1, balH (L.hist v) % 2, 0, []⟩, nilV) :: L.hist v) = 0 := by simp [balH, formH]
      have z1 : ∀ its, balH ((⟨2, (balH (L.hist v) + 1) / 2, 0, its⟩, nilV) :: L.hist (2 * v)) = (balH (L.hist v) + 1) / 2 := by intro its; generalize balH (L.hist v) = bb; simp [balH, formH, putsH, fromH, manyH]
      have z2 : ∀ its, balH ((⟨2, balH (L.hist v) / 2, 0, its⟩, nilV) :: L.hist (2 * v + 1)) = balH (L.hist v) / 2 := by intro its; generalize balH (L.hist v) = bb; simp [balH, formH, putsH, fromH, manyH]
      rw [z0, z1, z2]
      omega
    · split
      · exact stay _ _ rfl (by rw [tokP_ch (p := p) hk3, tokP_ch (by show 3 ≤ p.kind; exact hk3)])
      · rename_i hk4 hno
        refine zero _ 1 (incPr p) rfl ?_
        have k3 : p.kind = 3 := by have := hcq.kinds; omega
        have hf : formH (L.hist v) = 1 := by rw [tg.form, if_pos k3]
        obtain ⟨kk1, kk2, kk3⟩ := h.rel.kids v h1v hv hf
        have r0 := (h.rel.nodes (2 * v) (by omega) (by omega)).form
        have r1 := (h.rel.nodes (2 * v + 1) (by omega) hkid).form
        have f0 : formH (L.hist (2 * v)) = 2 := by omega
        have f1 : formH (L.hist (2 * v + 1)) = 2 := by omega
        have bv : balH (L.hist v) = 0 := by unfold balH; rw [hf]; simp
        have hN : foldN ((L.setP i (incPr p))) v = balH (L.hist (2 * v)) + balH (L.hist (2 * v + 1)) := by
          unfold foldN
          show (if L.c.kind = 0 then putsH (L.hist (2 * v)) + putsH (L.hist (2 * v + 1)) else ((alt (itemsH (L.hist (2 * v))) (itemsH (L.hist (2 * v + 1)))).length : Int)) = _
          rw [hcL]
          rcases hcf.1 with k0 | k1
          · rw [if_pos k0, h.bal_count ck tg k0 _ (Or.inr (Or.inl rfl)) f0, h.bal_count ck tg k0 _ (Or.inr (Or.inr rfl)) f1]
          · have htog : balH (L.hist (2 * v)) - balH (L.hist (2 * v + 1)) = togH (L.hist v) := by
              have hl := h.rel.lenle
              have e := ck.ci.even v h1v hv hf
              rw [even_quiet hkid (by omega) h1v ?_ tg.even] at e
              · omega
              · intro w hw w0 w1 hs
                exact leaf_below (by omega) h.v32 h1v ck.ci.par (fun x => x = 2 * v ∨ x = 2 * v + 1) (Or.inr (fun x hx => by omega)) (fun x hx => by rcases hx with e | e <;> rw [e] <;> omega) w hw hs (by omega)
            have ht01 : togH (L.hist v) = 0 ∨ togH (L.hist v) = 1 := by unfold togH; omega
            have q0 := h.bal_pool ck tg k1 _ (Or.inr (Or.inl rfl)) f0
            have q1 := h.bal_pool ck tg k1 _ (Or.inr (Or.inr rfl)) f1
            have ha := (altF_more _ (itemsH (L.hist (2 * v))) (itemsH (L.hist (2 * v + 1))) (Nat.le_refl _) (by omega)).2
            rw [if_neg (by omega)]
            unfold alt
            rw [ha]
            omega
        show balS ((L.setP i (incPr p)).folded v nilV nilV nilV nilV) = balS L
        unfold Lay.folded
        rw [balS_hap _ _ _ _ _ (by simp; omega), balS_hap _ _ _ _ _ (by simp; omega), balS_hap _ _ _ _ _ (by show 2 * v < L.past.length; omega), hN]
        have g1 : (((L.setP i (incPr p)).hap (2 * v) nilV ⟨3, 0, 0, []⟩ nilV).hist (2 * v + 1)) = L.hist (2 * v + 1) := by rw [hap_hist _ _ _ _ _ _ (by show 2 * v < L.past.length; omega) (by omega)]; rfl
        have g2 : ((((L.setP i (incPr p)).hap (2 * v) nilV ⟨3, 0, 0, []⟩ nilV).hap (2 * v + 1) nilV ⟨3, 0, 0, []⟩ nilV).hist v) = L.hist v := by rw [hap_hist _ _ _ _ _ _ (by simp; omega) (by omega), hap_hist _ _ _ _ _ _ (by show 2 * v < L.past.length; omega) (by omega)]; rfl
        rw [g1, g2, bv]
        have gv : (L.setP i (incPr p)).hist (2 * v) = L.hist (2 * v) := rfl
        rw [gv]
        have eS : balS (L.setP i (incPr p)) = balS L := rfl
        rw [eS]
        have z0 : ∀ l : Hist, balH ((⟨3, 0, 0, []⟩, nilV) :: l) = 0 := by intro l; simp [balH, formH]
        have z1 : ∀ its, balH ((⟨2, balH (L.hist (2 * v)) + balH (L.hist (2 * v + 1)), 0, its⟩, nilV) :: L.hist v) = balH (L.hist (2 * v)) + balH (L.hist (2 * v + 1)) := by intro its; generalize balH (L.hist (2 * v)) = bb; generalize balH (L.hist (2 * v + 1)) = cc; simp [balH, formH, putsH, fromH, manyH]
        rw [z0, z0, z1]
        omega
  rw [if_neg e17]
  have hmv : (lmove (L.setP i (incPr p)) v (incPr p) draw).kind = p.kind ∧ tokP L.procs (lmove (L.setP i (incPr p)) v (incPr p) draw) = tokP L.procs p := by
    have lo : ∀ q : Pr, q.kind = p.kind → q.phase ≤ 12 → ¬ (q.phase = 6 ∨ q.phase = 7) → p.phase ≤ 12 → ¬ (p.phase = 6 ∨ p.phase = 7) → tokP L.procs q = tokP L.procs p := by
      intro q a b d e f
      rw [tokP_lo d, tokP_lo f, if_pos b, if_pos e, a]
    have ch : ∀ q : Pr, q.kind = p.kind → 3 ≤ p.kind → tokP L.procs q = tokP L.procs p := by
      intro q a b
      rw [tokP_ch (by omega), tokP_ch b]
    unfold lmove
    have ein : (incPr p).phase = p.phase := rfl
    rw [ein]
    by_cases e0 : p.phase = 0
    · rw [if_pos e0]
      exact ⟨rfl, lo _ rfl (by show (1 : Int) ≤ 12; decide) (by show ¬ ((1 : Int) = 6 ∨ (1 : Int) = 7); decide) (by omega) (by omega)⟩
    rw [if_neg e0]
    by_cases e1 : p.phase = 1
    · rw [if_pos e1]
      split
      · exact ⟨rfl, lo _ rfl (by show (2 : Int) ≤ 12; decide) (by show ¬ ((2 : Int) = 6 ∨ (2 : Int) = 7); decide) (by omega) (by omega)⟩
      · split
        · refine ⟨rfl, lo _ rfl ?_ ?_ (by omega) (by omega)⟩
          · show (if _ then (3 : Int) else 12) ≤ 12
            split <;> decide
          · show ¬ ((if _ then (3 : Int) else 12) = 6 ∨ (if _ then (3 : Int) else 12) = 7)
            split <;> decide
        · rename_i hk3
          have hk3' : 3 ≤ p.kind := Int.not_lt.1 hk3
          split
          · exact ⟨rfl, ch _ rfl hk3'⟩
          · exact ⟨rfl, ch _ rfl hk3'⟩
    rw [if_neg e1]
    by_cases e2 : p.phase = 2
    · rw [if_pos e2]
      exact ⟨rfl, lo _ rfl (by show (0 : Int) ≤ 12; decide) (by show ¬ ((0 : Int) = 6 ∨ (0 : Int) = 7); decide) (by omega) (by omega)⟩
    rw [if_neg e2]
    by_cases e3 : p.phase = 3
    · rw [if_pos e3]
      exact ⟨rfl, lo _ rfl (by show (4 : Int) ≤ 12; decide) (by show ¬ ((4 : Int) = 6 ∨ (4 : Int) = 7); decide) (by omega) (by omega)⟩
    rw [if_neg e3]
    by_cases e4 : p.phase = 4
    · rw [if_pos e4]
      split
      · exact ⟨rfl, lo _ rfl (by show (5 : Int) ≤ 12; decide) (by show ¬ ((5 : Int) = 6 ∨ (5 : Int) = 7); decide) (by omega) (by omega)⟩
      · split
        · split
          · exact ⟨rfl, lo _ rfl (by show (11 : Int) ≤ 12; decide) (by show ¬ ((11 : Int) = 6 ∨ (11 : Int) = 7); decide) (by omega) (by omega)⟩
          · exact ⟨rfl, lo _ rfl (by show (8 : Int) ≤ 12; decide) (by show ¬ ((8 : Int) = 6 ∨ (8 : Int) = 7); decide) (by omega) (by omega)⟩
        · exact ⟨rfl, lo _ rfl (by show p.phase ≤ 12; omega) (by show ¬ (p.phase = 6 ∨ p.phase = 7); omega) (by omega) (by omega)⟩
    rw [if_neg e4]
    by_cases e5 : p.phase = 5
    · rw [if_pos e5]
      split
      · refine ⟨rfl, ?_⟩
        rw [tokP_un (Or.inl rfl) (by show (-1 : Int) < 0; decide), tokP_lo (p := p) (by omega), if_pos (by omega)]
      · exact ⟨rfl, lo _ rfl (by show (9 : Int) ≤ 12; decide) (by show ¬ ((9 : Int) = 6 ∨ (9 : Int) = 7); decide) (by omega) (by omega)⟩
    rw [if_neg e5]
    by_cases e6 : p.phase = 6
    · rw [if_pos e6]
      unfold waitPr
      split
      · rename_i hm
        refine ⟨rfl, ?_⟩
        have e1 : tokP L.procs { incPr p with phase := 7 } = _ := tokP_met (p := { incPr p with phase := 7 }) (Or.inr rfl) hm
        rw [tokP_met (p := p) (Or.inl e6) hm]
        exact e1
      · rename_i hm
        have hm' : p.met < 0 := Int.not_le.1 hm
        split
        · refine ⟨rfl, ?_⟩
          rw [tokP_un (p := p) (Or.inl e6) hm']
          exact tokP_un (p := { incPr p with pat := (incPr p).pat - 1 }) (Or.inl e6) hm'
        · refine ⟨rfl, ?_⟩
          rw [tokP_lo (by show ¬ ((10 : Int) = 6 ∨ (10 : Int) = 7); decide), if_pos (by show (10 : Int) ≤ 12; decide), tokP_un (p := p) (Or.inl e6) hm']
    rw [if_neg e6]
    by_cases e7 : p.phase = 7
    · rw [if_pos e7]
      obtain ⟨k, hk, hs⟩ := h.slotk
      have hf := h.inner (by omega) (by omega)
      have hsr := h.slotRel hf hk
      have hwi : waitP v k (L.procs[i]).2 = true := by
        rw [hep]
        unfold waitP
        simp [ha, hs, e7]
      obtain ⟨b, hb, hbl⟩ : ∃ b : Nat, p.met = (b : Int) ∧ b < L.procs.length := by
        rcases hsr with ⟨_, x⟩ | ⟨j, hj, _, _, x3, x4⟩
        · rw [x i hi] at hwi
          exact absurd hwi (by decide)
        · have eij := x3 i hi hwi
          subst eij
          rw [hep] at x4
          rcases x4 with x4 | ⟨_, b, _, x5, x6, _⟩
          · omega
          · exact ⟨b, x5, x6⟩
      have hkat : kindAt L.procs p.met = (L.procs[b]).2.kind := by unfold kindAt; rw [hb]; simp [hbl]
      have tp : tokP L.procs p = if (L.procs[b]).2.kind = p.kind then sgn p.kind else 0 := by rw [tokP_met (p := p) (Or.inr e7) (by omega), hkat]
      have eM : ∃ y, (L.setP i (incPr p)).procs[(incPr p).met.toNat]? = some y ∧ y.2.kind = (L.procs[b]).2.kind := by
        have em : (incPr p).met.toNat = b := by show p.met.toNat = b; omega
        rw [em]
        by_cases eb : b = i
        · subst eb
          refine ⟨((L.procs.getD b (0, incPr p)).1, incPr p), ?_, ?_⟩
          · show (L.procs.set b _)[b]? = _
            rw [List.getElem?_set_self hi]
          · show p.kind = _
            rw [hep]
        · refine ⟨L.procs[b], ?_, rfl⟩
          show (L.procs.set i _)[b]? = _
          rw [List.getElem?_set_ne (Ne.symm eb), List.getElem?_eq_getElem hbl]
      obtain ⟨y, ey, ky⟩ := eM
      rw [ey]
      simp only
      unfold settledPr
      by_cases e : p.kind = y.2.kind
      · rw [if_pos (show ({ incPr p with met := -1 } : Pr).kind = y.2.kind from e)]
        refine ⟨rfl, ?_⟩
        rw [tp, ← ky, if_pos e.symm, tokP_lo (by show ¬ ((0 : Int) = 6 ∨ (0 : Int) = 7); decide), if_pos (by show (0 : Int) ≤ 12; decide)]
      · rw [if_neg (show ¬ ({ incPr p with met := -1 } : Pr).kind = y.2.kind from e)]
        rw [tp, ← ky, if_neg (Ne.symm e)]
        split
        · exact ⟨rfl, by rw [tokP_lo (by show ¬ ((19 : Int) = 6 ∨ (19 : Int) = 7); decide), if_neg (by show ¬ (19 : Int) ≤ 12; decide)]⟩
        · exact ⟨rfl, by rw [tokP_lo (by show ¬ ((19 : Int) = 6 ∨ (19 : Int) = 7); decide), if_neg (by show ¬ (19 : Int) ≤ 12; decide)]⟩
    rw [if_neg e7]
    by_cases e15 : p.phase = 15
    · have hk3 : 3 ≤ p.kind := Int.not_lt.1 fun x => hkp.walk x (by omega)
      rw [if_pos e15]
      have : (shutCh (L.setP i (incPr p)) v (incPr p)).kind = p.kind := by unfold shutCh; split <;> rfl
      exact ⟨this, ch _ this hk3⟩
    rw [if_neg e15]
    by_cases e16 : p.phase = 16
    · have hk3 : 3 ≤ p.kind := Int.not_lt.1 fun x => hkp.walk x (by omega)
      rw [if_pos e16]
      have : (drainCh (L.setP i (incPr p)) v (incPr p)).kind = p.kind := by unfold drainCh; split; rfl; split <;> rfl
      exact ⟨this, ch _ this hk3⟩
    rw [if_neg e16]
    by_cases e18 : p.phase = 18
    · have hk3 : 3 ≤ p.kind := Int.not_lt.1 fun x => hkp.walk x (by omega)
      rw [if_pos e18]
      exact ⟨rfl, ch _ rfl hk3⟩
    rw [if_neg e18]
    by_cases e19 : p.phase = 19
    · rw [if_pos e19]
      refine ⟨rfl, ?_⟩
      have hup : (upPr (incPr p)).phase = 19 ∨ (upPr (incPr p)).phase = 20 := by
        unfold upPr
        simp only
        split
        · exact Or.inr rfl
        · exact Or.inl rfl
      rw [tokP_lo (p := upPr (incPr p)) (by omega), if_neg (by omega), tokP_lo (p := p) (by omega), if_neg (by omega)]
    omega
  exact stay _ _ hmv.1 hmv.2
end

end Go.Proofs.Ytjnmpejcegmkhab

namespace Go.Proofs.Ytjnmpejcegmkhab
open Go.RowKit

def ovalAt (ps : Ps) (m : Int) : Int := ((ps[m.toNat]?).map fun x => x.2.oval).getD 0
theorem ovalAt_set {ps : Ps} {i : Nat} (hi : i < ps.length) {x : Nat × Pr} (hk : x.2.oval = (ps[i]).2.oval) (m : Int) : ovalAt (ps.set i x) m = ovalAt ps m := by
  unfold ovalAt
  by_cases e : m.toNat = i
  · rw [e, List.getElem?_set_self hi, List.getElem?_eq_getElem hi]
    simp [hk]
  · rw [List.getElem?_set_ne (Ne.symm e)]

/-- What a process has to do with the value x: a Put has brought it (1), a Get has it (-1). -/
def vP (x : Int) (ps : Ps) (p : Pr) : Int :=
  if p.kind = 1 then (if p.oval = x ∧ (19 ≤ p.phase ∨ (metB p = true ∧ kindAt ps p.met ≠ 1)) then 1 else 0)
  else if p.kind = 2 then (if (19 ≤ p.phase ∧ p.val = x) ∨ (metB p = true ∧ kindAt ps p.met ≠ 2 ∧ ovalAt ps p.met = x) then -1 else 0)
  else 0
/-- How often x lies in a leaf. -/
def cntH (x : Int) (l : Hist) : Int := if formH l = 2 then ((itemsH l).count x : Int) else 0
def cntS (x : Int) (L : Lay) : Int := sumN (fun w => cntH x (L.hist w)) L.past.length
def ValOk (L : Lay) : Prop := ∀ x, cntS x L = sumP (vP x L.procs) L.procs
def KdOk (L : Lay) : Prop := ∀ i, (hi : i < L.procs.length) → ((L.procs[i]).2.phase = 13 → (L.procs[i]).2.kind = 1) ∧ ((L.procs[i]).2.phase = 14 → (L.procs[i]).2.kind = 2)

theorem metB_no {p : Pr} (h : ¬ (p.phase = 6 ∨ p.phase = 7)) : metB p = false := by
  unfold metB
  have h6 : ¬ p.phase = 6 := fun x => h (Or.inl x)
  have h7 : ¬ p.phase = 7 := fun x => h (Or.inr x)
  simp [h6, h7]
theorem metB_yes {p : Pr} (h : p.phase = 6 ∨ p.phase = 7) (hm : 0 ≤ p.met) : metB p = true := by
  unfold metB
  rcases h with x | x <;> simp [x, hm]
theorem vP_lo {x : Int} {ps : Ps} {p : Pr} (h : ¬ (p.phase = 6 ∨ p.phase = 7)) (h19 : p.phase < 19) : vP x ps p = 0 := by
  have h9 : ¬ 19 ≤ p.phase := by omega
  unfold vP
  rw [metB_no h]
  simp [h9]
theorem vP_ch {x : Int} {ps : Ps} {p : Pr} (h : 3 ≤ p.kind) : vP x ps p = 0 := by
  unfold vP
  rw [if_neg (by omega), if_neg (by omega)]
theorem vP_un {x : Int} {ps : Ps} {p : Pr} (h : p.phase = 6 ∨ p.phase = 7) (hm : p.met < 0) : vP x ps p = 0 := by
  have : metB p = false := by
    unfold metB
    have : ¬ 0 ≤ p.met := by omega
    simp [this]
  have h9 : ¬ 19 ≤ p.phase := by omega
  unfold vP
  rw [this]
  simp [h9]
theorem vP_met1 {x : Int} {ps : Ps} {p : Pr} (h : p.phase = 6 ∨ p.phase = 7) (hm : 0 ≤ p.met) (k : p.kind = 1) : vP x ps p = if p.oval = x ∧ kindAt ps p.met ≠ 1 then 1 else 0 := by
  have h9 : ¬ 19 ≤ p.phase := by omega
  unfold vP
  rw [metB_yes h hm, if_pos k]
  simp [h9]
theorem vP_met2 {x : Int} {ps : Ps} {p : Pr} (h : p.phase = 6 ∨ p.phase = 7) (hm : 0 ≤ p.met) (k : p.kind = 2) : vP x ps p = if kindAt ps p.met ≠ 2 ∧ ovalAt ps p.met = x then -1 else 0 := by
  have h9 : ¬ 19 ≤ p.phase := by omega
  unfold vP
  rw [metB_yes h hm, if_neg (by omega), if_pos k]
  simp [h9]
theorem vP_end1 {x : Int} {ps : Ps} {p : Pr} (h : 19 ≤ p.phase) (k : p.kind = 1) : vP x ps p = if p.oval = x then 1 else 0 := by
  unfold vP
  rw [if_pos k]
  simp [h]
theorem vP_end2 {x : Int} {ps : Ps} {p : Pr} (h : 19 ≤ p.phase) (k : p.kind = 2) : vP x ps p = if p.val = x then -1 else 0 := by
  unfold vP
  rw [metB_no (by omega), if_neg (by omega), if_pos k]
  simp [h]

theorem vP_set {x : Int} {ps : Ps} {i : Nat} (hi : i < ps.length) {y : Nat × Pr} (hk : y.2.kind = (ps[i]).2.kind) (ho : y.2.oval = (ps[i]).2.oval) : vP x (ps.set i y) = vP x ps := by
  funext p
  unfold vP
  rw [kindAt_set hi hk, ovalAt_set hi ho]

theorem val_one {L L' : Lay} (h : ValOk L) {i : Nat} (hi : i < L.procs.length) {pb : Nat} {p' : Pr} (hp : L'.procs = L.procs.set i (pb, p')) (hk : p'.kind = (L.procs[i]).2.kind) (ho : p'.oval = (L.procs[i]).2.oval) (hs : ∀ x, cntS x L' = cntS x L + (vP x L.procs p' - vP x L.procs (L.procs[i]).2)) : ValOk L' := by
  intro x
  rw [hp, vP_set hi hk ho, sumP_set _ _ _ hi, hs x, h x]
  simp only
  omega

theorem cntS_hap (x : Int) (L : Lay) (v : Nat) (y : Value) (ev : Ev) (iv : Value) (hv : v < L.past.length) : cntS x (L.hap v y ev iv) = cntS x L + (cntH x ((ev, iv) :: L.hist v) - cntH x (L.hist v)) := by
  unfold cntS
  rw [hap_len]
  have := sumN_upd (fun w => cntH x (L.hist w)) (fun w => cntH x ((L.hap v y ev iv).hist w)) v L.past.length hv (fun k _ hne => by rw [hist_hap L v k y ev iv hv, if_neg hne])
  rw [this, hist_hap L v v y ev iv hv, if_pos rfl]
  omega

theorem cnt_over (x : Int) (l : Hist) (ev : Ev) (iv : Value) (h3 : 3 < ev.what) (h6 : ev.what ≠ 6) (h8 : ev.what ≠ 8) (h9 : ev.what ≠ 9) : cntH x ((ev, iv) :: l) = cntH x l := by
  have hn3 : ¬ ev.what ≤ 3 := by omega
  unfold cntH
  rw [items_over l ev iv h3 h6 h8 h9]
  simp [formH, hn3]

theorem fm_same (f g : Nat → Option Int) : ∀ m, (∀ u, u < m → g u = f u) → (List.range m).filterMap g = (List.range m).filterMap f
  | 0, _ => rfl
  | m + 1, h => by
    rw [List.range_succ, List.filterMap_append, List.filterMap_append, fm_same f g m (fun u hu => h u (by omega))]
    congr 1
    have e := h m (by omega)
    simp only [List.filterMap_cons, List.filterMap_nil, e]
theorem fm_one (x : Int) (f : Nat → Option Int) (k : Nat) : ((([k] : List Nat).filterMap f).count x : Int) = if f k = some x then 1 else 0 := by
  cases h : f k with
  | none => simp [h]
  | some y =>
    by_cases e : y = x
    · subst e; simp [h]
    · simp [h, e]
theorem fm_upd (x : Int) (f g : Nat → Option Int) (t : Nat) : ∀ m, t < m → (∀ u, u ≠ t → g u = f u) → ((((List.range m).filterMap g).count x : Nat) : Int) = ((((List.range m).filterMap f).count x : Nat) : Int) - (if f t = some x then 1 else 0) + (if g t = some x then 1 else 0)
  | 0, ht, _ => by omega
  | m + 1, ht, h => by
    rw [List.range_succ, List.filterMap_append, List.filterMap_append, List.count_append, List.count_append]
    push_cast
    rw [fm_one, fm_one]
    by_cases e : t = m
    · subst e
      rw [fm_same f g t (fun u hu => h u (by omega))]
      omega
    · rw [fm_upd x f g t m (by omega) h, h m (by omega)]
      omega

theorem evod_cnt (x : Int) (X : List Int) : ∀ k, k ≤ X.length → (evT X k).count x + (odT X k).count x = (X.take k).count x
  | 0, _ => by simp [evT, odT]
  | k + 1, h => by
    have ih := evod_cnt x X k (by omega)
    rw [List.take_add_one, List.getElem?_eq_getElem (by omega), List.count_append]
    by_cases hk : k % 2 = 0
    · obtain ⟨e1, e2⟩ := evT_even X k (by omega) hk
      rw [e1, e2, List.count_append]
      simp only [Option.toList_some]
      omega
    · obtain ⟨e1, e2⟩ := evT_odd X k (by omega) hk
      rw [e1, e2, List.count_append]
      simp only [Option.toList_some]
      omega
theorem alt_cnt (z : Int) : ∀ (f : Nat) (x y : List Int), x.length + y.length ≤ f → (x.length = y.length ∨ x.length = y.length + 1) → (altF f x y).count z = x.count z + y.count z
  | 0, x, y, hf, _ => by
    have hx : x = [] := List.eq_nil_of_length_eq_zero (by omega)
    have hy : y = [] := List.eq_nil_of_length_eq_zero (by omega)
    subst hx hy
    simp [altF]
  | f + 1, [], y, _, hd => by
    have hy : y = [] := List.eq_nil_of_length_eq_zero (by simp at hd; omega)
    subst hy
    simp [altF]
  | f + 1, a :: x, y, hf, hd => by
    simp only [List.length_cons] at hf hd
    have ih := alt_cnt z f y x (by omega) (by omega)
    simp only [altF, List.count_cons]
    rw [ih]
    omega

/-- Behind a Put's ticket nothing more lies there. -/
theorem cnt6 (x : Int) {c : Conf} {l : Hist} {its : List (Int × Int)} (hi : ItemsRel c l its) (hc : c.kind = 1) : cntH x ((⟨6, 0, 0, []⟩, nilV) :: l) = cntH x l := by
  have hl := hi.len hc
  have e6 : (putsH ((⟨6, 0, 0, []⟩, nilV) :: l)).toNat = (putsH l).toNat + 1 := by
    unfold putsH at hl ⊢
    simp [fromH, manyH]
    omega
  have eit : ∀ u : Nat, itemH ((⟨6, 0, 0, []⟩, nilV) :: l) u = itemH l u := by
    intro u
    unfold itemH takenH
    simp [manyH, fromH, laidH]
  have hz : itemH l ((putsH l).toNat : Nat) = none := by
    rw [hi.it, ← hl]
    simp [List.getD_eq_getElem?_getD]
  have e1 : itemsH ((⟨6, 0, 0, []⟩, nilV) :: l) = itemsH l := by
    show itemsTo _ _ = itemsTo _ _
    rw [e6]
    have : itemsTo ((⟨6, 0, 0, []⟩, nilV) :: l) ((putsH l).toNat + 1) = itemsTo l ((putsH l).toNat + 1) := fm_same _ _ _ fun u _ => eit u
    rw [this, itemsTo_succ, hz]
    simp
  unfold cntH
  rw [e1]
  simp [formH]
theorem cnt8 (x : Int) {l : Hist} (hf : formH l = 2) {t : Nat} {y : Int} (ht : (t : Int) < putsH l) (h1 : takenH l t = false) (h2 : itemH l t = none) : cntH x ((⟨8, t, y, []⟩, nilV) :: l) = cntH x l + if y = x then 1 else 0 := by
  have hlow : ¬ ((t : Int) < ((fromH l).1.items.length : Int)) := by
    intro hlt
    have := h2
    unfold itemH at this
    rw [if_neg (by rw [h1]; simp), if_pos hlt] at this
    simp at this
  have e6 : putsH ((⟨8, t, y, []⟩, nilV) :: l) = putsH l := by simp [putsH, fromH, manyH]
  have etk : ∀ u, takenH ((⟨8, t, y, []⟩, nilV) :: l) u = takenH l u := fun u => by simp [takenH, manyH]
  have eit : ∀ u : Nat, u ≠ t → itemH ((⟨8, t, y, []⟩, nilV) :: l) u = itemH l u := by
    intro u hu
    unfold itemH
    rw [etk]
    have : ¬ ((t : Int) = (u : Int)) := by omega
    simp [fromH, laidH, this]
  have eself : itemH ((⟨8, t, y, []⟩, nilV) :: l) t = some y := by
    unfold itemH
    rw [etk, if_neg (by rw [h1]; simp)]
    rw [show fromH ((⟨8, t, y, []⟩, nilV) :: l) = fromH l from by simp [fromH], if_neg hlow]
    simp [laidH]
  unfold cntH
  rw [if_pos (by simp [formH, hf]), if_pos hf]
  unfold itemsH itemsTo
  rw [e6, fm_upd x (fun j : Nat => itemH l (j : Int)) (fun j : Nat => itemH ((⟨8, t, y, []⟩, nilV) :: l) (j : Int)) t _ (by omega) (fun u hu => eit u hu)]
  simp only [eself, h2]
  simp
theorem cnt9 (x : Int) {l : Hist} (hf : formH l = 2) {t : Nat} {y : Int} (ht : (t : Int) < putsH l) (h2 : itemH l t = some y) : cntH x ((⟨9, t, 0, []⟩, nilV) :: l) = cntH x l - if y = x then 1 else 0 := by
  have e6 : putsH ((⟨9, t, 0, []⟩, nilV) :: l) = putsH l := by simp [putsH, fromH, manyH]
  have etk : ∀ u : Nat, takenH ((⟨9, t, 0, []⟩, nilV) :: l) u = (decide (u = t) || takenH l u) := by
    intro u
    unfold takenH
    by_cases e : u = t
    · subst e; simp [manyH]; omega
    · have : ¬ ((t : Int) = (u : Int)) := by omega
      have h2 : ¬ ((u : Int) < 0) := by omega
      simp [manyH, e, this, h2]
  have eit : ∀ u : Nat, itemH ((⟨9, t, 0, []⟩, nilV) :: l) u = if u = t then none else itemH l u := by
    intro u
    unfold itemH
    rw [etk]
    by_cases e : u = t
    · simp [e]
    · simp [e, fromH, laidH]
  unfold cntH
  rw [if_pos (by simp [formH, hf]), if_pos hf]
  unfold itemsH itemsTo
  rw [e6, fm_upd x (fun j : Nat => itemH l (j : Int)) (fun j : Nat => itemH ((⟨9, t, 0, []⟩, nilV) :: l) (j : Int)) t _ (by omega) (fun u hu => by rw [eit, if_neg hu])]
  simp only [eit, h2]
  simp

end Go.Proofs.Ytjnmpejcegmkhab

namespace Go.Proofs.Ytjnmpejcegmkhab
open Go.RowKit

section
variable {c : Conf} {L : Lay} {P : PLay} {i v : Nat} {p : Pr} {n : PN}

theorem Here.kd (h : Here c L P i v p n) (ck : CK c L P) (hc : c.kind = 1) (draw : Int) (hk : KdOk L) : KdOk (lstep L i draw) := by
  obtain ⟨p', hw⟩ := h.went ck draw
  have hi := h.hi
  have hep := h.ep
  have hlen := went_len hw
  have hpr := hw.procs
  have hcq := ck.ci.cq i hi
  rw [hep] at hcq
  have hkp := hcq.kp
  have hqk := h.q.kind
  intro j hj
  have hj0 : j < L.procs.length := by omega
  by_cases e : j = i
  · subst e
    have e1 : (toPPs (lstep L j draw).procs)[j]? = some (toPP p') := by rw [hpr, List.getElem?_set_self (by rw [toPPs_len]; exact hi)]
    have e2 : (toPPs (lstep L j draw).procs)[j]? = some (toPP ((lstep L j draw).procs[j]).2) := by simp [toPPs, hj]
    rw [e2] at e1
    have ht := pp_told (Option.some.inj e1)
    have hk0 := hk j hi
    rw [hep] at hk0
    have hop := hw.op.1
    have hph : ((lstep L j draw).procs[j]).2.phase = p'.phase := ht.2.2.2.1
    have hkd : ((lstep L j draw).procs[j]).2.kind = p'.kind := ht.1
    rw [hph, hkd, hop]
    have hpm := hw.pm
    have c13 : p'.phase = 13 → p.phase = 12 ∨ p.phase = 13 := by
      intro e
      rw [e] at hpm
      generalize p.phase = a at *
      generalize p'.node = nd at *
      clear hk0 hkp hcq
      cases hpm <;> omega
    have c14 : p'.phase = 14 → p.phase = 12 ∨ p.phase = 14 := by
      intro e
      rw [e] at hpm
      generalize p.phase = a at *
      generalize p'.node = nd at *
      clear hk0 hkp hcq
      cases hpm <;> omega
    have c12 : p.phase = 12 → (p.kind = 0 ∧ p'.phase = 19) ∨ (p.kind = 1 ∧ p'.phase = 13) ∨ (p.kind ≠ 0 ∧ p.kind ≠ 1 ∧ p'.phase = 14) := by
      intro e12
      have e3 : ∀ (q : Pr) (ev : Ev), toPPs (((L.setP j (incPr p)).hap v nilV ev nilV).setP j q).procs = (toPPs L.procs).set j (toPP q) := by
        intro q ev
        rw [toPPs_setP]
        show (toPPs (L.setP j (incPr p)).procs).set j _ = _
        rw [toPPs_setP, List.set_set]
      rw [h.lat draw, h.lget] at hpr
      simp only at hpr
      rw [if_neg (by omega), if_neg (by omega), if_neg (by omega), if_neg (by omega), if_pos e12] at hpr
      by_cases k0 : p.kind = 0
      · rw [if_pos k0, e3] at hpr
        exact Or.inl ⟨k0, (pp_told (toPPs_setP_get (by rw [toPPs_len]; exact hi) hpr)).2.2.2.1.symm⟩
      · rw [if_neg k0] at hpr
        by_cases k1 : p.kind = 1
        · rw [if_pos k1, e3] at hpr
          exact Or.inr (Or.inl ⟨k1, (pp_told (toPPs_setP_get (by rw [toPPs_len]; exact hi) hpr)).2.2.2.1.symm⟩)
        · rw [if_neg k1, e3] at hpr
          exact Or.inr (Or.inr ⟨k0, k1, (pp_told (toPPs_setP_get (by rw [toPPs_len]; exact hi) hpr)).2.2.2.1.symm⟩)
    have hch := hkp.chg
    refine ⟨fun e13 => ?_, fun e14 => ?_⟩
    · rcases c13 e13 with a | a
      · have := c12 a; omega
      · exact hk0.1 a
    · rcases c14 e14 with a | a
      · have := c12 a
        have : p.kind < 3 := Int.not_le.1 fun x => by have := hch x; omega
        omega
      · exact hk0.2 a
  · have e1 : (toPPs (lstep L i draw).procs)[j]? = (toPPs L.procs)[j]? := by rw [hpr, List.getElem?_set_ne (Ne.symm e)]
    have e2 : (toPPs (lstep L i draw).procs)[j]? = some (toPP ((lstep L i draw).procs[j]).2) := by simp [toPPs, hj]
    have e3 : (toPPs L.procs)[j]? = some (toPP (L.procs[j]).2) := by simp [toPPs, hj0]
    rw [e2, e3] at e1
    have ht := pp_told (Option.some.inj e1)
    rw [ht.2.2.2.1, ht.1]
    exact hk j hj0

theorem Here.val (h : Here c L P i v p n) (ck : CK c L P) (hc : c.kind = 1) (draw : Int) (hkd : KdOk L) (ht : ValOk L) : ValOk (lstep L i draw) := by
  have hi := h.hi
  have hep := h.ep
  have hv := h.vN
  have ha := h.at'
  have hph := h.q.phase
  have hlive := h.live
  have hcq := ck.ci.cq i hi
  rw [hep] at hcq
  have hkp := hcq.kp
  have hqk := h.q.kind
  have hk0 := hkd i hi
  rw [hep] at hk0
  have stay : ∀ q p' : Pr, p'.kind = p.kind → p'.oval = p.oval → (∀ x, vP x L.procs p' = vP x L.procs p) → ValOk ((L.setP i q).setP i p') := by
    intro q p' e1 e3 e2
    refine val_one ht hi (pb := (L.procs.getD i (0, q)).1) (p' := p') ?_ (by rw [hep]; exact e1) (by rw [hep]; exact e3) fun x => ?_
    · show (L.procs.set i _).set i _ = _
      rw [List.set_set]
      congr 2
      simp [List.getD_eq_getElem?_getD, hi]
    · rw [hep, e2]
      show cntS x L = _
      omega
  have one : ∀ p' : Pr, p'.kind = p.kind → p'.oval = p.oval → (∀ x, vP x L.procs p' = vP x L.procs p) → ValOk (L.setP i p') := by
    intro p' e1 e3 e2
    refine val_one ht hi (pb := (L.procs.getD i (0, p')).1) (p' := p') rfl (by rw [hep]; exact e1) (by rw [hep]; exact e3) fun x => ?_
    rw [hep, e2]
    show cntS x L = _
    omega
  have happ : ∀ (q p' : Pr) (ev : Ev), p'.kind = p.kind → p'.oval = p.oval → (∀ x, cntH x ((ev, nilV) :: L.hist v) - cntH x (L.hist v) = vP x L.procs p' - vP x L.procs p) → ValOk (((L.setP i q).hap v nilV ev nilV).setP i p') := by
    intro q p' ev e1 e3 e2
    refine val_one ht hi (pb := (L.procs.getD i (0, q)).1) (p' := p') ?_ (by rw [hep]; exact e1) (by rw [hep]; exact e3) fun x => ?_
    · show (L.procs.set i _).set i _ = _
      rw [List.set_set]
      congr 2
      simp [List.getD_eq_getElem?_getD, hi]
    · rw [hep, ← e2]
      have := cntS_hap x (L.setP i q) v nilV ev nilV hv
      exact this
  have lo : ∀ q : Pr, q.phase < 19 → ¬ (q.phase = 6 ∨ q.phase = 7) → ∀ x, vP x L.procs q = 0 := fun q a b x => vP_lo b a
  rw [h.lat draw, h.lget]
  simp only
  by_cases e8 : p.phase = 8
  · rw [if_pos e8]
    obtain ⟨j, hm, hj, hji⟩ := h.q.mind e8
    have ej : p.mind.toNat = j := by omega
    rw [ej, List.getElem?_eq_getElem hj]
    simp only
    have tp : ∀ x, vP x L.procs p = 0 := lo p (by omega) (by omega)
    split
    · rename_i hme
      unfold meets at hme
      simp only [Bool.and_eq_true, decide_eq_true_eq] at hme
      obtain ⟨⟨_, y6⟩, ymet⟩ := hme
      have hqj := (h.rel.qs j hj).kind
      have hkj := (ck.ci.cq j hj).kp
      obtain ⟨y, hy⟩ : ∃ y, (L.procs[j]).2 = y := ⟨_, rfl⟩
      rw [hy] at y6 ymet hqj hkj ⊢
      have kp3 : p.kind < 3 := Int.not_le.1 fun x => by have := hkp.chg x; omega
      have kj3 : y.kind < 3 := Int.not_le.1 fun x => by have := hkj.chg x; omega
      have ty : ∀ x, vP x L.procs y = 0 := fun x => vP_un (Or.inl y6) ymet
      have kat : kindAt L.procs (i : Int) = p.kind := by
        unfold kindAt
        simp [hi, hep]
      have oat : ovalAt L.procs (i : Int) = p.oval := by
        unfold ovalAt
        simp [hi, hep]
      obtain ⟨y', hy'⟩ : ∃ y' : Pr, y' = { y with met := (i : Int) } := ⟨_, rfl⟩
      have ky' : y'.kind = y.kind := by rw [hy']
      have oy' : y'.oval = y.oval := by rw [hy']
      have m6 : y'.phase = 6 := by rw [hy']; exact y6
      have mm : y'.met = (i : Int) := by rw [hy']
      have ks : (settledPr (incPr p) y 1).kind = p.kind ∧ (settledPr (incPr p) y 1).oval = p.oval := by
        unfold settledPr
        split
        · exact ⟨rfl, rfl⟩
        · split <;> exact ⟨rfl, rfl⟩
      have hbal : ∀ x, vP x L.procs y' + vP x L.procs (settledPr (incPr p) y 1) = 0 := by
        intro x
        by_cases e : p.kind = y.kind
        · have s0 : vP x L.procs (settledPr (incPr p) y 1) = 0 := by
            unfold settledPr
            rw [if_pos (show (incPr p).kind = y.kind from e)]
            exact vP_lo (by show ¬ ((0 : Int) = 6 ∨ (0 : Int) = 7); decide) (by show (0 : Int) < 19; decide)
          rw [s0]
          have : y'.kind = 1 ∨ y'.kind = 2 := by omega
          rcases this with k | k
          · rw [vP_met1 (Or.inl m6) (by omega) k, mm, kat, if_neg (fun z => z.2 (by omega))]
            rfl
          · rw [vP_met2 (Or.inl m6) (by omega) k, mm, kat, if_neg (fun z => z.1 (by omega))]
            rfl
        · have : (p.kind = 1 ∧ y.kind = 2) ∨ (p.kind = 2 ∧ y.kind = 1) := by omega
          rcases this with ⟨a, b⟩ | ⟨a, b⟩
          · have s0 : vP x L.procs (settledPr (incPr p) y 1) = if p.oval = x then 1 else 0 := by
              unfold settledPr
              rw [if_neg (show ¬ (incPr p).kind = y.kind from e), if_neg (show ¬ (incPr p).kind = 2 by show ¬ p.kind = 2; omega)]
              exact vP_end1 (p := { incPr p with phase := 19 }) (by show (19 : Int) ≤ 19; decide) a
            rw [s0, vP_met2 (Or.inl m6) (by omega) (by omega), mm, kat, oat]
            by_cases z : p.oval = x
            · rw [if_pos ⟨by omega, z⟩, if_pos z]; rfl
            · rw [if_neg (fun u => z u.2), if_neg z]; rfl
          · have s0 : vP x L.procs (settledPr (incPr p) y 1) = if y.oval = x then -1 else 0 := by
              unfold settledPr
              rw [if_neg (show ¬ (incPr p).kind = y.kind from e), if_pos (show (incPr p).kind = 2 from a)]
              exact vP_end2 (p := { incPr p with val := y.oval, phase := 19 }) (by show (19 : Int) ≤ 19; decide) a
            rw [s0, vP_met1 (Or.inl m6) (by omega) (by omega), mm, kat, oy']
            by_cases z : y.oval = x
            · rw [if_pos ⟨z, by omega⟩, if_pos z]; rfl
            · rw [if_neg (fun u => z u.1), if_neg z]; rfl
      rw [← hy']
      generalize settledPr (incPr p) y 1 = p' at *
      obtain ⟨a, b, eproc⟩ : ∃ a b, (((L.setP i (incPr p)).setP j y').setP i p').procs = (L.procs.set j (a, y')).set i (b, p') := by
        have e3 : ∀ x0 x1 x2 : Nat × Pr, ((L.procs.set i x0).set j x1).set i x2 = (L.procs.set j x1).set i x2 := by
          intro x0 x1 x2
          rw [List.set_comm _ _ (Ne.symm hji), List.set_set]
        exact ⟨_, _, e3 _ (_, y') (_, p')⟩
      intro x
      have hx := ht x
      have eb : cntS x (((L.setP i (incPr p)).setP j y').setP i p') = cntS x L := rfl
      rw [eproc, eb]
      have hij : i < (L.procs.set j (a, y')).length := by simpa using hi
      have egi : ((L.procs.set j (a, y'))[i]).2 = p := by rw [List.getElem_set_ne hji]; exact hep
      have kk1 : (b, p').2.kind = ((L.procs.set j (a, y'))[i]).2.kind := by rw [egi]; exact ks.1
      have ko1 : (b, p').2.oval = ((L.procs.set j (a, y'))[i]).2.oval := by rw [egi]; exact ks.2
      have kk2 : (a, y').2.kind = (L.procs[j]).2.kind := by rw [hy]; exact ky'
      have ko2 : (a, y').2.oval = (L.procs[j]).2.oval := by rw [hy]; exact oy'
      rw [vP_set hij kk1 ko1, vP_set hj kk2 ko2, sumP_set _ _ _ hij, sumP_set _ _ _ hj, egi, hy]
      have h1 := hbal x
      have h2 := tp x
      have h3 := ty x
      simp only
      omega
    · refine stay _ _ rfl rfl fun x => ?_
      rw [tp]
      exact lo { incPr p with phase := 9 } (by show (9 : Int) < 19; decide) (by show ¬ ((9 : Int) = 6 ∨ (9 : Int) = 7); decide) x
  rw [if_neg e8]
  by_cases e9 : p.phase = 9
  · rw [if_pos e9]
    refine happ _ _ _ rfl rfl fun x => ?_
    rw [cnt_over x (L.hist v) ⟨5, _, 0, []⟩ nilV (by show (3 : Int) < 5; decide) (by show (5 : Int) ≠ 6; decide) (by show (5 : Int) ≠ 8; decide) (by show (5 : Int) ≠ 9; decide), lo p (by omega) (by omega) x, lo { incPr p with phase := 11 } (by show (11 : Int) < 19; decide) (by show ¬ ((11 : Int) = 6 ∨ (11 : Int) = 7); decide) x]
    omega
  rw [if_neg e9]
  by_cases e10 : p.phase = 10
  · rw [if_pos e10]
    refine happ _ _ _ rfl rfl fun x => ?_
    rw [cnt_over x (L.hist v) ⟨5, _, 0, []⟩ nilV (by show (3 : Int) < 5; decide) (by show (5 : Int) ≠ 6; decide) (by show (5 : Int) ≠ 8; decide) (by show (5 : Int) ≠ 9; decide), lo p (by omega) (by omega) x, lo { incPr p with phase := 11 } (by show (11 : Int) < 19; decide) (by show ¬ ((11 : Int) = 6 ∨ (11 : Int) = 7); decide) x]
    omega
  rw [if_neg e10]
  by_cases e11 : p.phase = 11
  · rw [if_pos e11]
    refine happ _ _ _ rfl rfl fun x => ?_
    rw [cnt_over x (L.hist v) ⟨4, 0, 0, []⟩ nilV (by show (3 : Int) < 4; decide) (by show (4 : Int) ≠ 6; decide) (by show (4 : Int) ≠ 8; decide) (by show (4 : Int) ≠ 9; decide), lo p (by omega) (by omega) x, vP_lo (by show ¬ ((0 : Int) = 6 ∨ (0 : Int) = 7); decide) (by show (0 : Int) < 19; decide)]
    omega
  rw [if_neg e11]
  by_cases e12 : p.phase = 12
  · rw [if_pos e12]
    have hf := h.isLeaf (by omega) (by omega)
    have hir := (h.nr.leaf hf).2.2.2
    have tp : ∀ x, vP x L.procs p = 0 := lo p (by omega) (by omega)
    have hk3 : p.kind < 3 := Int.not_le.1 fun x => by have := hkp.chg x; omega
    split
    · rename_i hk
      have hk' : p.kind = 0 := hk
      omega
    · split
      · refine happ _ _ _ rfl rfl fun x => ?_
        rw [cnt6 x hir hc, tp, vP_lo (by show ¬ ((13 : Int) = 6 ∨ (13 : Int) = 7); decide) (by show (13 : Int) < 19; decide)]
        omega
      · refine happ _ _ _ rfl rfl fun x => ?_
        rw [cnt_over x (L.hist v) ⟨7, 0, 0, []⟩ nilV (by show (3 : Int) < 7; decide) (by show (7 : Int) ≠ 6; decide) (by show (7 : Int) ≠ 8; decide) (by show (7 : Int) ≠ 9; decide), tp, vP_lo (by show ¬ ((14 : Int) = 6 ∨ (14 : Int) = 7); decide) (by show (14 : Int) < 19; decide)]
        omega
  rw [if_neg e12]
  by_cases e13 : p.phase = 13
  · rw [if_pos e13]
    have tp : ∀ x, vP x L.procs p = 0 := lo p (by omega) (by omega)
    split
    · refine happ _ _ _ rfl rfl fun x => ?_
      have hf := h.isLeaf (by omega) (by omega)
      obtain ⟨_, htp⟩ := h.q.tick.2.2 e13
      rw [h.toNat] at htp
      have h0 := h.rel.tk0 i hi (by rw [hep]; exact e13)
      rw [hep, h.toNat] at h0
      obtain ⟨t, et⟩ : ∃ t : Nat, p.ticket = (t : Int) := ⟨p.ticket.toNat, by have := h.q.tick.1; omega⟩
      rw [et] at h0 htp
      have e8 : cntH x ((⟨8, p.ticket, p.oval, []⟩, nilV) :: L.hist v) = cntH x (L.hist v) + if p.oval = x then 1 else 0 := by rw [et]; exact cnt8 x hf htp h0.1 h0.2
      have e1 : vP x L.procs { incPr p with phase := 19 } = if p.oval = x then 1 else 0 := vP_end1 (p := { incPr p with phase := 19 }) (by show (19 : Int) ≤ 19; decide) (hk0.1 e13)
      show cntH x ((⟨8, p.ticket, p.oval, []⟩, nilV) :: L.hist v) - cntH x (L.hist v) = vP x L.procs { incPr p with phase := 19 } - vP x L.procs p
      rw [e8, e1, tp]
      omega
    · refine one _ rfl rfl fun x => ?_
      rw [tp]
      exact lo (incPr p) (by show p.phase < 19; omega) (by show ¬ (p.phase = 6 ∨ p.phase = 7); omega) x
  rw [if_neg e13]
  by_cases e14 : p.phase = 14
  · rw [if_pos e14]
    have tp : ∀ x, vP x L.procs p = 0 := lo p (by omega) (by omega)
    split
    · rename_i y hy
      refine happ _ _ _ rfl rfl fun x => ?_
      have hf := h.isLeaf (by omega) (by omega)
      have hir := (h.nr.leaf hf).2.2.2
      obtain ⟨t, et⟩ : ∃ t : Nat, p.ticket = (t : Int) := ⟨p.ticket.toNat, by have := h.q.tick.1; omega⟩
      have etk : (incPr p).ticket = (t : Int) := et
      rw [etk] at hy
      have htp : (t : Int) < putsH (L.hist v) := by
        rw [← hir.len hc]
        have := hir.it t
        rw [hy] at this
        by_cases e : t < n.items.length
        · omega
        · rw [List.getD_eq_getElem?_getD, List.getElem?_eq_none (by omega)] at this
          simp at this
      have e9 : cntH x ((⟨9, p.ticket, 0, []⟩, nilV) :: L.hist v) = cntH x (L.hist v) - if y = x then 1 else 0 := by rw [et]; exact cnt9 x hf htp hy
      have e1 : vP x L.procs { incPr p with val := y, phase := 19 } = if y = x then -1 else 0 := vP_end2 (p := { incPr p with val := y, phase := 19 }) (by show (19 : Int) ≤ 19; decide) (hk0.2 e14)
      show cntH x ((⟨9, p.ticket, 0, []⟩, nilV) :: L.hist v) - cntH x (L.hist v) = vP x L.procs { incPr p with val := y, phase := 19 } - vP x L.procs p
      rw [e9, e1, tp]
      split <;> omega
    · refine one _ rfl rfl fun x => ?_
      rw [tp]
      exact lo (incPr p) (by show p.phase < 19; omega) (by show ¬ (p.phase = 6 ∨ p.phase = 7); omega) x
  rw [if_neg e14]
  by_cases e17 : p.phase = 17
  · rw [if_pos e17]
    have tg := h.target17 ck e17
    have hkid := tg.kid
    have h1v := h.v1
    have hk3 : 3 ≤ p.kind := Int.not_lt.1 fun x => hkp.walk x (by omega)
    have hcL := h.rel.cL
    have zero : ∀ (L' : Lay) (r : Int) (q : Pr), L'.procs = ((L.setP i q).setP i (upPr { incPr p with val := r })).procs → (∀ x, cntS x L' = cntS x L) → ValOk L' := by
      intro L' r q e1 e2
      refine val_one ht hi (pb := (L.procs.getD i (0, q)).1) (p' := upPr { incPr p with val := r }) ?_ (by rw [hep]; rfl) (by rw [hep]; rfl) fun x => ?_
      · rw [e1]
        show (L.procs.set i _).set i _ = _
        rw [List.set_set]
        congr 2
        simp [List.getD_eq_getElem?_getD, hi]
      · rw [hep, e2, vP_ch (p := p) hk3, vP_ch (by show 3 ≤ p.kind; exact hk3)]
        omega
    split
    · rename_i hk4
      refine zero _ 1 (incPr p) rfl fun x => ?_
      have hf : formH (L.hist v) = 2 := by rw [tg.form, if_neg (by omega)]
      have hno : ∀ w, w / 2 = v → 2 ≤ w → w < L.past.length → formH (L.hist w) = 3 := by
        intro w hw h2 hwN
        by_cases f : formH (L.hist w) = 3
        · exact f
        · have := ck.ci.par w h2 hwN f
          rw [hw] at this
          omega
      have f0 := hno (2 * v) (by omega) (by omega) (by omega)
      have f1 := hno (2 * v + 1) (by omega) (by omega) hkid
      have b0 : cntH x (L.hist (2 * v)) = 0 := by unfold cntH; rw [f0]; simp
      have b1 : cntH x (L.hist (2 * v + 1)) = 0 := by unfold cntH; rw [f1]; simp
      have hN : unfN (L.setP i (incPr p)) v = ((itemsH (L.hist v)).length : Int) := by
        unfold unfN
        show (if L.c.kind = 0 then putsH (L.hist v) else ((itemsH (L.hist v)).length : Int)) = _
        rw [hcL, if_neg (by omega)]
      show cntS x ((L.setP i (incPr p)).unfolded v nilV nilV nilV nilV nilV) = cntS x L
      unfold Lay.unfolded
      rw [cntS_hap _ _ _ _ _ _ (by simp; omega), cntS_hap _ _ _ _ _ _ (by simp; omega), cntS_hap _ _ _ _ _ _ (by exact hv), hN]
      have gv : (L.setP i (incPr p)).hist v = L.hist v := rfl
      rw [gv]
      have hbv : cntH x (L.hist v) = ((itemsH (L.hist v)).count x : Int) := by unfold cntH; rw [if_pos hf]
      generalize hX : itemsH (L.hist v) = X at *
      obtain ⟨l1, l2⟩ := evT_len X X.length (Nat.le_refl _)
      have hcnt := evod_cnt x X X.length (Nat.le_refl _)
      rw [List.take_length] at hcnt
      generalize evT X X.length = E1 at *
      generalize odT X X.length = E2 at *
      have n1 : ((X.length : Int) + 1) / 2 = (E1.length : Int) := by omega
      have n2 : (X.length : Int) / 2 = (E2.length : Int) := by omega
      rw [n1, n2]
      have g1 : (((L.setP i (incPr p)).hap v nilV ⟨1, (X.length : Int) % 2, 0, []⟩ nilV).hist (2 * v)) = L.hist (2 * v) := by rw [hap_hist _ _ _ _ _ _ (by exact hv) (by omega)]; rfl
      have g2 : ((((L.setP i (incPr p)).hap v nilV ⟨1, (X.length : Int) % 2, 0, []⟩ nilV).hap (2 * v) nilV ⟨2, (E1.length : Int), 0, E1⟩ nilV).hist (2 * v + 1)) = L.hist (2 * v + 1) := by rw [hap_hist _ _ _ _ _ _ (by simp; omega) (by omega), hap_hist _ _ _ _ _ _ (by exact hv) (by omega)]; rfl
      rw [g1, g2, b0, b1]
      have eS : cntS x (L.setP i (incPr p)) = cntS x L := rfl
      rw [eS]
      have z0 : cntH x ((⟨1, (X.length : Int) % 2, 0, []⟩, nilV) :: L.hist v) = 0 := by simp [cntH, formH]
      have z1 : ∀ (E : List Int) (l : Hist), cntH x ((⟨2, (E.length : Int), 0, E⟩, nilV) :: l) = (E.count x : Int) := by
        intro E l
        unfold cntH
        rw [itemsH_leaf c hc, if_pos (by simp [formH])]
      rw [z0, z1, z1, hbv]
      omega
    · split
      · exact stay _ _ rfl rfl fun x => by rw [vP_ch (p := p) hk3, vP_ch (by show 3 ≤ p.kind; exact hk3)]
      · rename_i hk4 hno
        refine zero _ 1 (incPr p) rfl fun x => ?_
        have k3 : p.kind = 3 := by have := hcq.kinds; omega
        have hf : formH (L.hist v) = 1 := by rw [tg.form, if_pos k3]
        obtain ⟨kk1, kk2, kk3⟩ := h.rel.kids v h1v hv hf
        have r0 := (h.rel.nodes (2 * v) (by omega) (by omega)).form
        have r1 := (h.rel.nodes (2 * v + 1) (by omega) hkid).form
        have f0 : formH (L.hist (2 * v)) = 2 := by omega
        have f1 : formH (L.hist (2 * v + 1)) = 2 := by omega
        have bv : cntH x (L.hist v) = 0 := by unfold cntH; rw [hf]; simp
        have htog : balH (L.hist (2 * v)) - balH (L.hist (2 * v + 1)) = togH (L.hist v) := by
          have hl := h.rel.lenle
          have e := ck.ci.even v h1v hv hf
          rw [even_quiet hkid (by omega) h1v ?_ tg.even] at e
          · omega
          · intro w hw w0 w1 hs
            exact leaf_below (by omega) h.v32 h1v ck.ci.par (fun x => x = 2 * v ∨ x = 2 * v + 1) (Or.inr (fun x hx => by omega)) (fun x hx => by rcases hx with e | e <;> rw [e] <;> omega) w hw hs (by omega)
        have ht01 : togH (L.hist v) = 0 ∨ togH (L.hist v) = 1 := by unfold togH; omega
        have q0 := h.bal_pool ck tg hc _ (Or.inr (Or.inl rfl)) f0
        have q1 := h.bal_pool ck tg hc _ (Or.inr (Or.inr rfl)) f1
        have c0 : cntH x (L.hist (2 * v)) = ((itemsH (L.hist (2 * v))).count x : Int) := by unfold cntH; rw [if_pos f0]
        have c1 : cntH x (L.hist (2 * v + 1)) = ((itemsH (L.hist (2 * v + 1))).count x : Int) := by unfold cntH; rw [if_pos f1]
        have hN : foldN ((L.setP i (incPr p))) v = ((alt (itemsH (L.hist (2 * v))) (itemsH (L.hist (2 * v + 1)))).length : Int) := by
          unfold foldN
          show (if L.c.kind = 0 then putsH (L.hist (2 * v)) + putsH (L.hist (2 * v + 1)) else ((alt (itemsH (L.hist (2 * v))) (itemsH (L.hist (2 * v + 1)))).length : Int)) = _
          rw [hcL, if_neg (by omega)]
        show cntS x ((L.setP i (incPr p)).folded v nilV nilV nilV nilV) = cntS x L
        unfold Lay.folded
        rw [cntS_hap _ _ _ _ _ _ (by simp; omega), cntS_hap _ _ _ _ _ _ (by simp; omega), cntS_hap _ _ _ _ _ _ (by show 2 * v < L.past.length; omega), hN]
        have g1 : (((L.setP i (incPr p)).hap (2 * v) nilV ⟨3, 0, 0, []⟩ nilV).hist (2 * v + 1)) = L.hist (2 * v + 1) := by rw [hap_hist _ _ _ _ _ _ (by show 2 * v < L.past.length; omega) (by omega)]; rfl
        have g2 : ((((L.setP i (incPr p)).hap (2 * v) nilV ⟨3, 0, 0, []⟩ nilV).hap (2 * v + 1) nilV ⟨3, 0, 0, []⟩ nilV).hist v) = L.hist v := by rw [hap_hist _ _ _ _ _ _ (by simp; omega) (by omega), hap_hist _ _ _ _ _ _ (by show 2 * v < L.past.length; omega) (by omega)]; rfl
        rw [g1, g2, bv]
        have gv : (L.setP i (incPr p)).hist (2 * v) = L.hist (2 * v) := rfl
        have gw : (L.setP i (incPr p)).hist (2 * v + 1) = L.hist (2 * v + 1) := rfl
        rw [gv, gw]
        have eS : cntS x (L.setP i (incPr p)) = cntS x L := rfl
        rw [eS]
        have z0 : ∀ l : Hist, cntH x ((⟨3, 0, 0, []⟩, nilV) :: l) = 0 := by intro l; simp [cntH, formH]
        have hac := alt_cnt x _ (itemsH (L.hist (2 * v))) (itemsH (L.hist (2 * v + 1))) (Nat.le_refl _) (by omega)
        have z1 : cntH x ((⟨2, ((alt (itemsH (L.hist (2 * v))) (itemsH (L.hist (2 * v + 1)))).length : Int), 0, alt (itemsH (L.hist (2 * v))) (itemsH (L.hist (2 * v + 1)))⟩, nilV) :: L.hist v) = ((alt (itemsH (L.hist (2 * v))) (itemsH (L.hist (2 * v + 1)))).count x : Int) := by
          unfold cntH
          rw [itemsH_leaf c hc, if_pos (by simp [formH])]
        rw [z0, z0, z1, c0, c1]
        unfold alt
        rw [hac]
        omega
  rw [if_neg e17]
  have hmv : (lmove (L.setP i (incPr p)) v (incPr p) draw).kind = p.kind ∧ (lmove (L.setP i (incPr p)) v (incPr p) draw).oval = p.oval ∧ ∀ x, vP x L.procs (lmove (L.setP i (incPr p)) v (incPr p) draw) = vP x L.procs p := by
    have lo2 : ∀ q : Pr, q.phase < 19 → ¬ (q.phase = 6 ∨ q.phase = 7) → p.phase < 19 → ¬ (p.phase = 6 ∨ p.phase = 7) → ∀ x, vP x L.procs q = vP x L.procs p := by
      intro q b d e f x
      rw [lo q b d x, lo p e f x]
    have ch : ∀ q : Pr, q.kind = p.kind → 3 ≤ p.kind → ∀ x, vP x L.procs q = vP x L.procs p := by
      intro q a b x
      rw [vP_ch (by omega), vP_ch b]
    unfold lmove
    have ein : (incPr p).phase = p.phase := rfl
    rw [ein]
    by_cases e0 : p.phase = 0
    · rw [if_pos e0]
      exact ⟨rfl, rfl, lo2 _ (by show (1 : Int) < 19; decide) (by show ¬ ((1 : Int) = 6 ∨ (1 : Int) = 7); decide) (by omega) (by omega)⟩
    rw [if_neg e0]
    by_cases e1 : p.phase = 1
    · rw [if_pos e1]
      split
      · exact ⟨rfl, rfl, lo2 _ (by show (2 : Int) < 19; decide) (by show ¬ ((2 : Int) = 6 ∨ (2 : Int) = 7); decide) (by omega) (by omega)⟩
      · split
        · refine ⟨rfl, rfl, lo2 _ ?_ ?_ (by omega) (by omega)⟩
          · show (if _ then (3 : Int) else 12) < 19
            split <;> decide
          · show ¬ ((if _ then (3 : Int) else 12) = 6 ∨ (if _ then (3 : Int) else 12) = 7)
            split <;> decide
        · rename_i hk3
          have hk3' : 3 ≤ p.kind := Int.not_lt.1 hk3
          split
          · exact ⟨rfl, rfl, ch _ rfl hk3'⟩
          · exact ⟨rfl, rfl, ch _ rfl hk3'⟩
    rw [if_neg e1]
    by_cases e2 : p.phase = 2
    · rw [if_pos e2]
      exact ⟨rfl, rfl, lo2 _ (by show (0 : Int) < 19; decide) (by show ¬ ((0 : Int) = 6 ∨ (0 : Int) = 7); decide) (by omega) (by omega)⟩
    rw [if_neg e2]
    by_cases e3 : p.phase = 3
    · rw [if_pos e3]
      exact ⟨rfl, rfl, lo2 _ (by show (4 : Int) < 19; decide) (by show ¬ ((4 : Int) = 6 ∨ (4 : Int) = 7); decide) (by omega) (by omega)⟩
    rw [if_neg e3]
    by_cases e4 : p.phase = 4
    · rw [if_pos e4]
      split
      · exact ⟨rfl, rfl, lo2 _ (by show (5 : Int) < 19; decide) (by show ¬ ((5 : Int) = 6 ∨ (5 : Int) = 7); decide) (by omega) (by omega)⟩
      · split
        · split
          · exact ⟨rfl, rfl, lo2 _ (by show (11 : Int) < 19; decide) (by show ¬ ((11 : Int) = 6 ∨ (11 : Int) = 7); decide) (by omega) (by omega)⟩
          · exact ⟨rfl, rfl, lo2 _ (by show (8 : Int) < 19; decide) (by show ¬ ((8 : Int) = 6 ∨ (8 : Int) = 7); decide) (by omega) (by omega)⟩
        · exact ⟨rfl, rfl, lo2 _ (by show p.phase < 19; omega) (by show ¬ (p.phase = 6 ∨ p.phase = 7); omega) (by omega) (by omega)⟩
    rw [if_neg e4]
    by_cases e5 : p.phase = 5
    · rw [if_pos e5]
      split
      · refine ⟨rfl, rfl, fun x => ?_⟩
        rw [vP_un (Or.inl rfl) (by show (-1 : Int) < 0; decide), lo p (by omega) (by omega) x]
      · exact ⟨rfl, rfl, lo2 _ (by show (9 : Int) < 19; decide) (by show ¬ ((9 : Int) = 6 ∨ (9 : Int) = 7); decide) (by omega) (by omega)⟩
    rw [if_neg e5]
    by_cases e6 : p.phase = 6
    · rw [if_pos e6]
      unfold waitPr
      split
      · rename_i hm
        have hm0 : 0 ≤ p.met := hm
        refine ⟨rfl, rfl, fun x => ?_⟩
        have k12 : p.kind = 1 ∨ p.kind = 2 ∨ 3 ≤ p.kind := by omega
        rcases k12 with k | k | k
        · rw [vP_met1 (p := p) (Or.inl e6) hm0 k]
          exact vP_met1 (p := { incPr p with phase := 7 }) (Or.inr rfl) hm0 k
        · rw [vP_met2 (p := p) (Or.inl e6) hm0 k]
          exact vP_met2 (p := { incPr p with phase := 7 }) (Or.inr rfl) hm0 k
        · exact ch { incPr p with phase := 7 } rfl k x
      · rename_i hm
        have hm' : p.met < 0 := Int.not_le.1 hm
        split
        · refine ⟨rfl, rfl, fun x => ?_⟩
          rw [vP_un (p := p) (Or.inl e6) hm']
          exact vP_un (p := { incPr p with pat := (incPr p).pat - 1 }) (Or.inl e6) hm'
        · refine ⟨rfl, rfl, fun x => ?_⟩
          rw [vP_lo (by show ¬ ((10 : Int) = 6 ∨ (10 : Int) = 7); decide) (by show (10 : Int) < 19; decide), vP_un (p := p) (Or.inl e6) hm']
    rw [if_neg e6]
    by_cases e7 : p.phase = 7
    · rw [if_pos e7]
      obtain ⟨k, hk, hs⟩ := h.slotk
      have hf := h.inner (by omega) (by omega)
      have hsr := h.slotRel hf hk
      have hwi : waitP v k (L.procs[i]).2 = true := by
        rw [hep]
        unfold waitP
        simp [ha, hs, e7]
      obtain ⟨b, hb, hbl⟩ : ∃ b : Nat, p.met = (b : Int) ∧ b < L.procs.length := by
        rcases hsr with ⟨_, x⟩ | ⟨j, hj, _, _, x3, x4⟩
        · rw [x i hi] at hwi
          exact absurd hwi (by decide)
        · have eij := x3 i hi hwi
          subst eij
          rw [hep] at x4
          rcases x4 with x4 | ⟨_, b, _, x5, x6, _⟩
          · omega
          · exact ⟨b, x5, x6⟩
      have hkat : kindAt L.procs p.met = (L.procs[b]).2.kind := by unfold kindAt; rw [hb]; simp [hbl]
      have hoat : ovalAt L.procs p.met = (L.procs[b]).2.oval := by unfold ovalAt; rw [hb]; simp [hbl]
      have eM : ∃ y, (L.setP i (incPr p)).procs[(incPr p).met.toNat]? = some y ∧ y.2.kind = (L.procs[b]).2.kind ∧ y.2.oval = (L.procs[b]).2.oval := by
        have em : (incPr p).met.toNat = b := by show p.met.toNat = b; omega
        rw [em]
        by_cases eb : b = i
        · subst eb
          refine ⟨((L.procs.getD b (0, incPr p)).1, incPr p), ?_, ?_, ?_⟩
          · show (L.procs.set b _)[b]? = _
            rw [List.getElem?_set_self hi]
          · show p.kind = _
            rw [hep]
          · show p.oval = _
            rw [hep]
        · refine ⟨L.procs[b], ?_, rfl, rfl⟩
          show (L.procs.set i _)[b]? = _
          rw [List.getElem?_set_ne (Ne.symm eb), List.getElem?_eq_getElem hbl]
      obtain ⟨y, ey, ky, oy⟩ := eM
      rw [ey]
      simp only
      rw [← ky] at hkat
      rw [← oy] at hoat
      have k12 : p.kind = 1 ∨ p.kind = 2 := by
        have : p.kind < 3 := Int.not_le.1 fun x => by have := hkp.chg x; omega
        omega
      unfold settledPr
      by_cases e : p.kind = y.2.kind
      · rw [if_pos (show ({ incPr p with met := -1 } : Pr).kind = y.2.kind from e)]
        refine ⟨rfl, rfl, fun x => ?_⟩
        rw [vP_lo (by show ¬ ((0 : Int) = 6 ∨ (0 : Int) = 7); decide) (by show (0 : Int) < 19; decide)]
        rcases k12 with k | k
        · rw [vP_met1 (p := p) (Or.inr e7) (by omega) k, if_neg (fun z => z.2 (by omega))]
        · rw [vP_met2 (p := p) (Or.inr e7) (by omega) k, if_neg (fun z => z.1 (by omega))]
      · rw [if_neg (show ¬ ({ incPr p with met := -1 } : Pr).kind = y.2.kind from e)]
        rcases k12 with k | k
        · rw [if_neg (show ¬ ({ incPr p with met := -1 } : Pr).kind = 2 by show ¬ p.kind = 2; omega)]
          refine ⟨rfl, rfl, fun x => ?_⟩
          rw [vP_met1 (p := p) (Or.inr e7) (by omega) k, vP_end1 (by show (19 : Int) ≤ 19; decide) (by show p.kind = 1; exact k)]
          show (if p.oval = x then (1 : Int) else 0) = _
          by_cases z : p.oval = x
          · rw [if_pos z, if_pos ⟨z, by omega⟩]
          · rw [if_neg z, if_neg (fun u => z u.1)]
        · rw [if_pos (show ({ incPr p with met := -1 } : Pr).kind = 2 by show p.kind = 2; exact k)]
          refine ⟨rfl, rfl, fun x => ?_⟩
          rw [vP_met2 (p := p) (Or.inr e7) (by omega) k, vP_end2 (by show (19 : Int) ≤ 19; decide) (by show p.kind = 2; exact k), hoat]
          show (if y.2.oval = x then (-1 : Int) else 0) = _
          by_cases z : y.2.oval = x
          · rw [if_pos z, if_pos ⟨by omega, z⟩]
          · rw [if_neg z, if_neg (fun u => z u.2)]
    rw [if_neg e7]
    by_cases e15 : p.phase = 15
    · have hk3 : 3 ≤ p.kind := Int.not_lt.1 fun x => hkp.walk x (by omega)
      rw [if_pos e15]
      have : (shutCh (L.setP i (incPr p)) v (incPr p)).kind = p.kind ∧ (shutCh (L.setP i (incPr p)) v (incPr p)).oval = p.oval := by unfold shutCh; split <;> exact ⟨rfl, rfl⟩
      exact ⟨this.1, this.2, ch _ this.1 hk3⟩
    rw [if_neg e15]
    by_cases e16 : p.phase = 16
    · have hk3 : 3 ≤ p.kind := Int.not_lt.1 fun x => hkp.walk x (by omega)
      rw [if_pos e16]
      have : (drainCh (L.setP i (incPr p)) v (incPr p)).kind = p.kind ∧ (drainCh (L.setP i (incPr p)) v (incPr p)).oval = p.oval := by unfold drainCh; split; exact ⟨rfl, rfl⟩; split <;> exact ⟨rfl, rfl⟩
      exact ⟨this.1, this.2, ch _ this.1 hk3⟩
    rw [if_neg e16]
    by_cases e18 : p.phase = 18
    · have hk3 : 3 ≤ p.kind := Int.not_lt.1 fun x => hkp.walk x (by omega)
      rw [if_pos e18]
      exact ⟨rfl, rfl, ch _ rfl hk3⟩
    rw [if_neg e18]
    by_cases e19 : p.phase = 19
    · rw [if_pos e19]
      refine ⟨rfl, rfl, fun x => ?_⟩
      have hup : 19 ≤ (upPr (incPr p)).phase := by
        unfold upPr
        simp only
        split
        · decide
        · exact Int.le_refl _
      have k12 : p.kind = 1 ∨ p.kind = 2 ∨ 3 ≤ p.kind := by omega
      rcases k12 with k | k | k
      · rw [vP_end1 (p := p) (by omega) k, vP_end1 hup k]
        rfl
      · rw [vP_end2 (p := p) (by omega) k, vP_end2 hup k]
        rfl
      · exact ch (upPr (incPr p)) rfl k x
    omega
  exact stay _ _ hmv.1 hmv.2.1 hmv.2.2
end

end Go.Proofs.Ytjnmpejcegmkhab
