/- How long a process may still be on its way (P15): a bound that falls with every round. No statement of the seat is proved here. -/
import Derived.Test.YtjnmpejcegmkhaaWork2
namespace Go.Proofs.Ytjnmpejcegmkhaa
open Go.RowKit

def sumQ (f : PP → Int) : List PP → Int
  | [] => 0
  | q :: r => f q + sumQ f r
theorem sumQ_set (f : PP → Int) : ∀ (l : List PP) (i : Nat) (hi : i < l.length) (q : PP), sumQ f (l.set i q) + f l[i] = sumQ f l + f q
  | [], i, hi, _ => by simp at hi
  | y :: r, 0, _, q => by simp only [List.set_cons_zero, sumQ, List.getElem_cons_zero]; omega
  | y :: r, i + 1, hi, q => by
    have := sumQ_set f r i (by simpa using hi) q
    simp only [List.set_cons_succ, sumQ, List.getElem_cons_succ]
    omega

def inHold (u : Int) (q : PP) : Bool := decide (q.node = u) && (decide (q.phase = 16) || decide (q.phase = 17) || decide (q.phase = 18))
theorem inHold_iff (u : Int) (q : PP) : inHold u q = true ↔ q.node = u ∧ 16 ≤ q.phase ∧ q.phase ≤ 18 := by
  unfold inHold
  simp only [Bool.and_eq_true, Bool.or_eq_true, decide_eq_true_eq]
  omega
def shQ (u : Int) : List PP → Bool
  | [] => false
  | q :: r => inHold u q || shQ u r
theorem shQ_ex {u : Int} : ∀ {l : List PP}, shQ u l = true → ∃ x, ∃ hx : x < l.length, inHold u l[x] = true
  | [], h => by simp [shQ] at h
  | q :: r, h => by
    simp only [shQ, Bool.or_eq_true] at h
    rcases h with h | h
    · exact ⟨0, by simp, by simpa using h⟩
    · obtain ⟨x, hx, e⟩ := shQ_ex h
      exact ⟨x + 1, by simpa using hx, by simpa using e⟩
theorem shQ_of {u : Int} : ∀ {l : List PP} (x : Nat) (hx : x < l.length), inHold u l[x] = true → shQ u l = true
  | [], _, hx, _ => by simp at hx
  | q :: r, 0, _, h => by simp only [List.getElem_cons_zero] at h; simp [shQ, h]
  | q :: r, x + 1, hx, h => by simp only [List.getElem_cons_succ] at h; simp [shQ, shQ_of x (by simpa using hx) h]
theorem shQ_set {u : Int} : ∀ (l : List PP) (i : Nat) (hi : i < l.length) (q : PP), inHold u q = inHold u l[i] → shQ u (l.set i q) = shQ u l
  | [], i, hi, _, _ => by simp at hi
  | y :: r, 0, _, q, h => by simp only [List.set_cons_zero, shQ, List.getElem_cons_zero] at *; rw [h]
  | y :: r, i + 1, hi, q, h => by
    simp only [List.set_cons_succ, shQ, List.getElem_cons_succ] at *
    rw [shQ_set r i (by simpa using hi) q h]
theorem shQ_pps (u : Int) : ∀ ps : Prs, shQ u (toPPs ps) = shutL u ps
  | [] => rfl
  | x :: r => by
    show (inHold u (toPP x.2) || shQ u (toPPs r)) = _
    rw [shQ_pps u r]
    rfl

def dQ (q : PP) : Nat := Nat.log2 q.node.toNat
def workQ (c : Conf) (sh : Bool) (q : PP) : Int := work c.depth.toNat c.spin c.drain sh q.kind q.phase q.pat (dQ q)
def holdQ (c : Conf) (q : PP) : Int := holdW c.drain q.kind q.phase q.pat
def phi (c : Conf) (l : List PP) (q : PP) : Int := workQ c (shQ q.node l) q + sumQ (holdQ c) l - holdQ c q
def arrived (q : PP) : Prop := q.phase = 13 ∨ q.phase = 14 ∨ q.phase = 19 ∨ q.phase = 20

/-- One Step, of the processes alone. -/
structure SQ (c : Conf) (l : List PP) (j v : Nat) (q q' : PP) : Prop where
  hj : j < l.length
  eq : l[j] = q
  at' : q.node = (v : Int)
  v1 : 1 ≤ v
  v32 : v < 32
  vD : v < 2 ^ (c.depth.toNat + 1)
  kind : q'.kind = q.kind
  pm : PM v q.phase q'.phase q'.node
  ka : KP q.kind q.phase
  kb : KP q.kind q'.phase
  inn : 3 ≤ q.phase → q.phase ≤ 11 → 2 * v + 1 < 2 ^ (c.depth.toNat + 1)
  node : q'.phase ≠ 20 → ∃ u : Nat, q'.node = (u : Int) ∧ 1 ≤ u ∧ u < 2 ^ (c.depth.toNat + 1)
  look : q.phase = 1 → (q'.phase = 2 ↔ shQ v l = true)
  wait : q.phase = 6 → 0 ≤ q.pat ∧ (q'.phase = 6 → q'.pat = q.pat - 1)
  claim : q.phase = 5 → q'.phase = 6 → q'.pat = c.spin
  shut : q.phase = 15 → q'.phase = 16 → q'.pat = c.drain
  drain : q.phase = 16 → 0 ≤ q.pat ∧ (q'.phase = 16 → q'.pat = q.pat - 1)
  spin0 : 0 ≤ c.spin
  drain0 : 0 ≤ c.drain

theorem log2_up : ∀ v : Fin 32, 1 ≤ v.1 → v.1 / 2 ≠ 0 → Nat.log2 v.1 = Nat.log2 (v.1 / 2) + 1 := by decide

theorem PM.from16 {v : Nat} {a b nd : Int} (h : PM v a b nd) (ha : a = 16) : nd = (v : Int) ∧ 16 ≤ b ∧ b ≤ 18 := by
  cases h <;> omega
theorem PM.live {v : Nat} {a b nd : Int} (h : PM v a b nd) : a ≠ 20 ∧ 0 ≤ a ∧ a ≤ 19 := by
  cases h <;> omega
theorem PM.arr {v : Nat} {a b nd : Int} (h : PM v a b nd) (ha : a = 13 ∨ a = 14 ∨ a = 19) : b = 13 ∨ b = 14 ∨ b = 19 ∨ b = 20 := by
  cases h <;> omega
theorem PM.low {v : Nat} {a b nd : Int} (h : PM v a b nd) (ha : a = 0 ∨ a = 2) : nd = (v : Int) ∧ b ≤ 2 := by
  cases h <;> omega
theorem PM.back1 {v : Nat} {a b nd : Int} (h : PM v a b nd) (ha : a = 1) (hb : b = 2) : nd = (v : Int) := by
  cases h <;> omega

theorem SQ.hold {c : Conf} {l : List PP} {j v : Nat} {q q' : PP} (h : SQ c l j v q q') : holdQ c q' ≤ holdQ c q ∧ (15 ≤ q.phase → q.phase ≤ 18 → holdQ c q' + 1 ≤ holdQ c q) ∧ (q.phase = 17 ∨ q.phase = 18 → holdQ c q' + 4 ≤ holdQ c q) := by
  obtain ⟨a, b, d, e⟩ := hold_step h.drain0 h.pm q.kind q.pat q'.pat h.ka h.kb h.shut (fun x => (h.drain x).1) (fun x => (h.drain x).2)
  unfold holdQ
  rw [h.kind]
  refine ⟨a, fun x y => ?_, e⟩
  by_cases e15 : q.phase = 15
  · exact d e15
  · exact b (by omega) y

theorem SQ.other {c : Conf} {l : List PP} {j v : Nat} {q q' : PP} (h : SQ c l j v q q') (i : Nat) (hi : i < l.length) (hij : i ≠ j) : phi c (l.set j q') l[i] ≤ phi c l l[i] ∧ (15 ≤ q.phase → q.phase ≤ 18 → phi c (l.set j q') l[i] + 1 ≤ phi c l l[i]) := by
  obtain ⟨a, b, d⟩ := h.hold
  have hs := sumQ_set (holdQ c) l j h.hj q'
  rw [h.eq] at hs
  have hg := work_gate c.depth.toNat c.spin c.drain (shQ (l[i]).node l) (shQ (l[i]).node (l.set j q')) (l[i]).kind (l[i]).phase (l[i]).pat (dQ l[i])
  have key : shQ (l[i]).node l = true ∧ shQ (l[i]).node (l.set j q') = false → q.phase = 17 ∨ q.phase = 18 := by
    rintro ⟨e1, e2⟩
    obtain ⟨x, hx, ex⟩ := shQ_ex e1
    have hxj : x = j := by
      by_cases e : x = j
      · exact e
      · exfalso
        have : shQ (l[i]).node (l.set j q') = true := shQ_of x (by simpa using hx) (by rw [List.getElem_set_ne (Ne.symm e)]; exact ex)
        rw [this] at e2
        exact absurd e2 (by decide)
    subst hxj
    rw [h.eq] at ex
    have hq := (inHold_iff _ _).1 ex
    have hq' : ¬ (q'.node = (l[i]).node ∧ 16 ≤ q'.phase ∧ q'.phase ≤ 18) := by
      intro x'
      have : shQ (l[i]).node (l.set x q') = true := shQ_of x (by simpa using hx) (by rw [List.getElem_set_self]; exact (inHold_iff _ _).2 x')
      rw [this] at e2
      exact absurd e2 (by decide)
    have hat := h.at'
    have hpm := h.pm
    by_cases e16 : q.phase = 16
    · exfalso
      obtain ⟨x1, x2, x3⟩ := hpm.from16 e16
      exact hq' ⟨by omega, x2, x3⟩
    · omega
  unfold phi workQ
  by_cases e : shQ (l[i]).node l = true ∧ shQ (l[i]).node (l.set j q') = false
  · have := d (key e)
    exact ⟨by omega, fun _ _ => by omega⟩
  · have := hg.2 e
    exact ⟨by omega, fun x y => by have := b x y; omega⟩

theorem SQ.own {c : Conf} {l : List PP} {j v : Nat} {q q' : PP} (h : SQ c l j v q q') (hna : ¬ arrived q) :
    phi c (l.set j q') q' ≤ phi c l q ∧ (¬ (q.phase ≤ 2 ∧ shQ v l = true) → phi c (l.set j q') q' + 1 ≤ phi c l q) ∧ (q.phase ≤ 2 ∧ shQ v l = true → q'.phase ≤ 2 ∧ q'.node = (v : Int)) := by
  have hs := sumQ_set (holdQ c) l j h.hj q'
  rw [h.eq] at hs
  have hat := h.at'
  have hpm := h.pm
  have hd : dQ q ≤ c.depth.toNat := by
    unfold dQ
    rw [hat, Int.toNat_natCast]
    have := (Nat.log2_lt (show v ≠ 0 by have := h.v1; omega)).2 h.vD
    omega
  have hdv : dQ q = Nat.log2 v := by unfold dQ; rw [hat, Int.toNat_natCast]
  have hd' : q'.phase ≠ 20 → dQ q' ≤ c.depth.toNat := by
    intro h20
    obtain ⟨u, e, u1, u2⟩ := h.node h20
    unfold dQ
    rw [e, Int.toNat_natCast]
    have := (Nat.log2_lt (show u ≠ 0 by omega)).2 u2
    omega
  have hin : 3 ≤ q.phase → q.phase ≤ 11 → dQ q < c.depth.toNat := by
    intro a b
    have h1 := h.inn a b
    have h2 := (Nat.log2_lt (show 2 * v + 1 ≠ 0 by omega)).2 h1
    have h3 := (log2_kid ⟨v, h.v32⟩ h.v1).2
    simp only at h3
    omega
  have hk0 : q'.node = (v : Int) → dQ q' = dQ q := by
    intro e
    rw [hdv]
    unfold dQ
    rw [e, Int.toNat_natCast]
  have hk1 : q'.node / 2 = (v : Int) → dQ q' = dQ q + 1 := by
    intro e
    have h3 := log2_kid ⟨v, h.v32⟩ h.v1
    simp only at h3
    rw [hdv]
    unfold dQ
    have : q'.node.toNat = 2 * v ∨ q'.node.toNat = 2 * v + 1 := by omega
    rcases this with x | x
    · rw [x]; exact h3.1
    · rw [x]; exact h3.2
  have hku : q'.node = (v : Int) / 2 → (v : Int) / 2 ≠ 0 → dQ q = dQ q' + 1 := by
    intro e e0
    have h3 := log2_up ⟨v, h.v32⟩ h.v1 (by show v / 2 ≠ 0; omega)
    simp only at h3
    rw [hdv]
    unfold dQ
    have : q'.node.toNat = v / 2 := by omega
    rw [this]
    exact h3
  have hsh : q.phase ≤ 2 → q'.phase ≤ 2 → q'.node = (v : Int) → shQ q'.node (l.set j q') = shQ v l := by
    intro a b e
    rw [e]
    refine shQ_set l j h.hj q' ?_
    rw [h.eq]
    have e1 : inHold (v : Int) q' = false := by
      cases hh : inHold (v : Int) q'
      · rfl
      · have := (inHold_iff _ _).1 hh; omega
    have e2 : inHold (v : Int) q = false := by
      cases hh : inHold (v : Int) q
      · rfl
      · have := (inHold_iff _ _).1 hh; omega
    rw [e1, e2]
  have hst : ¬ (q.phase = 13 ∧ q'.phase = 13) ∧ ¬ (q.phase = 14 ∧ q'.phase = 14) := ⟨fun x => hna (Or.inl x.1), fun x => hna (Or.inr (Or.inl x.1))⟩
  obtain ⟨w1, w2⟩ := work_own h.spin0 h.drain0 hpm (shQ v l) (shQ q'.node (l.set j q')) q.kind q.pat q'.pat (dQ q) (dQ q') h.ka h.kb hd hd' hin hk0 hk1 hku hsh h.look (fun x => (h.wait x).1) (fun x => (h.wait x).2) h.claim h.shut (fun x => (h.drain x).1) (fun x => (h.drain x).2) hst
  have e0 : phi c l q = work c.depth.toNat c.spin c.drain (shQ v l) q.kind q.phase q.pat (dQ q) + sumQ (holdQ c) l - holdQ c q := by unfold phi workQ; rw [hat]
  have e1 : phi c (l.set j q') q' = work c.depth.toNat c.spin c.drain (shQ q'.node (l.set j q')) q.kind q'.phase q'.pat (dQ q') + sumQ (holdQ c) (l.set j q') - holdQ c q' := by unfold phi workQ; rw [h.kind]
  rw [e0, e1]
  refine ⟨by omega, fun x => by have := w1 x; omega, fun x => ?_⟩
  obtain ⟨x1, x2⟩ := x
  have hpl := hpm.live
  by_cases e1 : q.phase = 1
  · have e2 := (h.look e1).2 x2
    exact ⟨by omega, hpm.back1 e1 e2⟩
  · have := hpm.low (by omega)
    exact ⟨this.2, this.1⟩

end Go.Proofs.Ytjnmpejcegmkhaa
