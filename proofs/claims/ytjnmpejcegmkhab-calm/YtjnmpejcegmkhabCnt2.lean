/- Rounds of a pool in which everybody has arrived (P15): who can go on goes on (the document's tree alone). No statement of the seat is proved here. Rounds of a pool (P15): how long it takes till nobody can go on (the document's tree alone). No statement of the seat is proved here. The numbers that a counter has handed out (P13), of the document's tree alone. No statement of the seat is proved here. Whom a waiting process of a counter was met by (the document's tree alone). No statement of the seat is proved here. When an Inc of a counter ends (the document's tree alone). No statement of the seat is proved here. The numbers that a counter has handed out, through Folds and Unfolds (the document's tree alone). No statement of the seat is proved here. No number of a counter is too great (the document's tree alone). No statement of the seat is proved here. What holds of a counter's tree through every play of a hand (the document's tree alone). No statement of the seat is proved here. How long a process may still be on its way (P15): rounds of a counter, to the end. No statement of the seat is proved here. Rounds of a counter (P13, P15): what a step of a round does. No statement of the seat is proved here. -/
import Derived.Test.YtjnmpejcegmkhabCl2
import Derived.Test.YtjnmpejcegmkhabWorkA
import Derived.Test.YtjnmpejcegmkhabTk1
namespace Go.Proofs.Ytjnmpejcegmkhab
open Go.RowKit

/-- Whoever waits here can go on, sooner or later. -/
abbrev enQ (c : Conf) (L : Lay) (q : PP) : Prop := (q.phase = 13 ∧ q.ticket < roomOf c q.node.toNat + manyH 7 (-1) (L.hist q.node.toNat)) ∨ (q.phase = 14 ∧ q.ticket < putsH (L.hist q.node.toNat))
def tauQ (q : PP) : Int := if q.phase = 13 then 2 * q.ticket else 2 * q.ticket + 1
def minQ (c : Conf) (L : Lay) (q : PP) : Prop := enQ c L q ∧ ∀ k, (hk : k < (toPPs L.procs).length) → enQ c L (toPPs L.procs)[k] → ((toPPs L.procs)[k]).node = q.node → tauQ q ≤ tauQ (toPPs L.procs)[k]

section
variable {c : Conf} {L : Lay} {P : PLay} {i v : Nat} {p : Pr} {n : PN}

theorem Here.arrs (h : Here c L P i v p n) (draw : Int) (ha : p.phase = 13 ∨ p.phase = 14 ∨ p.phase = 19) :
    ∃ q', toPPs (lstep L i draw).procs = (toPPs L.procs).set i q' ∧ (lstep L i draw).past.length = L.past.length ∧ (∀ u, formH ((lstep L i draw).hist u) = formH (L.hist u) ∧ putsH ((lstep L i draw).hist u) = putsH (L.hist u) ∧ manyH 7 (-1) ((lstep L i draw).hist u) = manyH 7 (-1) (L.hist u)) ∧
      (p.phase = 13 → (roomyH c v (L.hist v) p.ticket = true ∧ q'.phase = 19 ∧ q'.node = p.node) ∨ (roomyH c v (L.hist v) p.ticket = false ∧ q' = toPP p)) ∧
      (p.phase = 14 → (itemH (L.hist v) p.ticket ≠ none ∧ q'.phase = 19 ∧ q'.node = p.node) ∨ (itemH (L.hist v) p.ticket = none ∧ q' = toPP p)) ∧
      (p.phase = 19 → (q'.phase = 20 ∨ (q'.phase = 19 ∧ q'.node = p.node / 2 ∧ p.node / 2 ≠ 0))) := by
  have hv := h.vN
  have e3 : ∀ (q : Pr) (ev : Ev), toPPs (((L.setP i (incPr p)).hap v nilV ev nilV).setP i q).procs = (toPPs L.procs).set i (toPP q) := by
    intro q ev
    rw [toPPs_setP]
    show (toPPs (L.setP i (incPr p)).procs).set i _ = _
    rw [toPPs_setP, List.set_set]
  have e4 : ∀ (q : Pr) (ev : Ev), (ev.what = 8 ∨ ev.what = 9) → ∀ u, formH ((((L.setP i (incPr p)).hap v nilV ev nilV).setP i q).hist u) = formH (L.hist u) ∧ putsH ((((L.setP i (incPr p)).hap v nilV ev nilV).setP i q).hist u) = putsH (L.hist u) ∧ manyH 7 (-1) ((((L.setP i (incPr p)).hap v nilV ev nilV).setP i q).hist u) = manyH 7 (-1) (L.hist u) := by
    intro q ev hev u
    have e : (((L.setP i (incPr p)).hap v nilV ev nilV).setP i q).hist u = if u = v then (ev, nilV) :: L.hist v else L.hist u := hist_hap (L.setP i (incPr p)) v u nilV ev nilV hv
    rw [e]
    by_cases eu : u = v
    · subst eu
      rw [if_pos rfl]
      have n3 : ¬ ev.what ≤ 3 := by omega
      have h3 : 3 < ev.what := by omega
      have n6 : ev.what ≠ 6 := by omega
      have n7 : ev.what ≠ 7 := by omega
      refine ⟨by simp [formH, n3], by unfold putsH; simp [fromH, manyH, n3, h3, n6], by simp [manyH, h3, n7]⟩
    · rw [if_neg eu]
      exact ⟨rfl, rfl, rfl⟩
  have e5 : ∀ (q : Pr) (ev : Ev), (((L.setP i (incPr p)).hap v nilV ev nilV).setP i q).past.length = L.past.length := fun q ev => hap_len (L.setP i (incPr p)) v nilV ev nilV
  have inc : toPP (incPr p) = toPP p := rfl
  rw [h.lat draw, h.lget]
  simp only
  rw [if_neg (by omega), if_neg (by omega), if_neg (by omega), if_neg (by omega), if_neg (by omega)]
  by_cases e13 : p.phase = 13
  · rw [if_pos e13]
    have hcL := h.rel.cL
    split
    · rename_i hro
      have hro' : roomyH L.c v (L.hist v) p.ticket = true := hro
      rw [hcL] at hro'
      exact ⟨_, e3 _ _, e5 _ _, e4 _ _ (Or.inl rfl), fun _ => Or.inl ⟨hro', rfl, rfl⟩, fun x => by omega, fun x => by omega⟩
    · rename_i hro
      have hro' : ¬ roomyH L.c v (L.hist v) p.ticket = true := hro
      rw [hcL] at hro'
      exact ⟨toPP p, by rw [toPPs_setP, inc], rfl, fun u => ⟨rfl, rfl, rfl⟩, fun _ => Or.inr ⟨by simpa using hro', rfl⟩, fun x => by omega, fun x => by omega⟩
  rw [if_neg e13]
  by_cases e14 : p.phase = 14
  · rw [if_pos e14]
    split
    · rename_i y hy
      have hy' : itemH (L.hist v) p.ticket = some y := hy
      exact ⟨_, e3 _ _, e5 _ _, e4 _ _ (Or.inr rfl), fun x => by omega, fun _ => Or.inl ⟨by rw [hy']; simp, rfl, rfl⟩, fun x => by omega⟩
    · rename_i hy
      have hy' : itemH (L.hist v) p.ticket = none := hy
      exact ⟨toPP p, by rw [toPPs_setP, inc], rfl, fun u => ⟨rfl, rfl, rfl⟩, fun x => by omega, fun _ => Or.inr ⟨hy', rfl⟩, fun x => by omega⟩
  rw [if_neg e14, if_neg (by omega)]
  have e19 : p.phase = 19 := by omega
  have em : lmove (L.setP i (incPr p)) v (incPr p) draw = upPr (incPr p) := by
    unfold lmove
    have ein : (incPr p).phase = p.phase := rfl
    rw [ein, if_neg (by omega), if_neg (by omega), if_neg (by omega), if_neg (by omega), if_neg (by omega), if_neg (by omega), if_neg (by omega), if_neg (by omega), if_neg (by omega), if_neg (by omega), if_neg (by omega), if_pos e19]
  rw [em]
  refine ⟨toPP (upPr (incPr p)), by rw [toPPs_setP, toPPs_setP, List.set_set], rfl, fun u => ⟨rfl, rfl, rfl⟩, fun x => by omega, fun x => by omega, fun _ => ?_⟩
  show (upPr (incPr p)).phase = 20 ∨ ((upPr (incPr p)).phase = 19 ∧ (upPr (incPr p)).node = p.node / 2 ∧ p.node / 2 ≠ 0)
  unfold upPr
  simp only
  have en : (incPr p).node = p.node := rfl
  rw [en]
  by_cases z : p.node / 2 = 0
  · left
    rw [if_pos z]
  · right
    rw [if_neg z]
    refine ⟨?_, ?_, z⟩ <;> first | trivial | rfl
end

/-- In the midst of a round that began with L0; dn: who has had its turn. -/
structure RJ (c : Conf) (L0 L : Lay) (dn : List Nat) : Prop where
  len : (toPPs L.procs).length = (toPPs L0.procs).length
  past : L.past.length = L0.past.length
  same : ∀ u, formH (L.hist u) = formH (L0.hist u) ∧ putsH (L.hist u) = putsH (L0.hist u) ∧ manyH 7 (-1) (L.hist u) = manyH 7 (-1) (L0.hist u)
  all : ∀ j, (hj : j < (toPPs L0.procs).length) → arrived (toPPs L0.procs)[j]
  wait : ∀ j, (hj : j < (toPPs L.procs).length) → (h0 : j < (toPPs L0.procs).length) → (((toPPs L0.procs)[j]).phase = 13 ∨ ((toPPs L0.procs)[j]).phase = 14) → (((toPPs L.procs)[j]).phase = ((toPPs L0.procs)[j]).phase ∧ ((toPPs L.procs)[j]).node = ((toPPs L0.procs)[j]).node ∧ ((toPPs L.procs)[j]).ticket = ((toPPs L0.procs)[j]).ticket) ∨ ((((toPPs L.procs)[j]).phase = 19 ∨ ((toPPs L.procs)[j]).phase = 20) ∧ enQ c L0 (toPPs L0.procs)[j])
  out : ∀ j, (hj : j < (toPPs L.procs).length) → (h0 : j < (toPPs L0.procs).length) → ((toPPs L0.procs)[j]).phase = 19 → ((toPPs L.procs)[j]).phase = 20 ∨ (((toPPs L.procs)[j]).phase = 19 ∧ dQ (toPPs L.procs)[j] ≤ dQ (toPPs L0.procs)[j])
  done : ∀ j, (hj : j < (toPPs L.procs).length) → (h0 : j < (toPPs L0.procs).length) → ((toPPs L0.procs)[j]).phase = 20 → ((toPPs L.procs)[j]).phase = 20
  t19 : ∀ j, j ∈ dn → (hj : j < (toPPs L.procs).length) → (h0 : j < (toPPs L0.procs).length) → ((toPPs L0.procs)[j]).phase = 19 → ((toPPs L.procs)[j]).phase = 20 ∨ (((toPPs L.procs)[j]).phase = 19 ∧ dQ (toPPs L.procs)[j] + 1 ≤ dQ (toPPs L0.procs)[j])
  tmin : ∀ j, j ∈ dn → (hj : j < (toPPs L.procs).length) → (h0 : j < (toPPs L0.procs).length) → minQ c L0 (toPPs L0.procs)[j] → ((toPPs L.procs)[j]).phase = 19 ∨ ((toPPs L.procs)[j]).phase = 20

theorem RJ.start (c : Conf) (L : Lay) (h : ∀ j, (hj : j < (toPPs L.procs).length) → arrived (toPPs L.procs)[j]) : RJ c L L [] :=
  ⟨rfl, rfl, fun _ => ⟨rfl, rfl, rfl⟩, h, fun _ _ _ _ => Or.inl ⟨rfl, rfl, rfl⟩, fun _ _ _ x => Or.inr ⟨x, Nat.le_refl _⟩, fun _ _ _ x => x, fun _ x => by simp at x, fun _ x => by simp at x⟩

theorem RJ.skip {c : Conf} {L0 L : Lay} {dn : List Nat} (h : RJ c L0 L dn) (j : Nat) (hj : j < (toPPs L.procs).length) (h20 : ((toPPs L.procs)[j]).phase = 20) : RJ c L0 L (j :: dn) := by
  refine ⟨h.len, h.past, h.same, h.all, h.wait, h.out, h.done, fun k hk hkl h0 x => ?_, fun k hk hkl h0 x => ?_⟩
  · rcases List.mem_cons.1 hk with e | e
    · subst e
      exact Or.inl h20
    · exact h.t19 k e hkl h0 x
  · rcases List.mem_cons.1 hk with e | e
    · subst e
      exact Or.inr h20
    · exact h.tmin k e hkl h0 x

theorem RJ.old {c : Conf} {L0 L : Lay} {dn : List Nat} (h : RJ c L0 L dn) {k : Nat} (hk : k < (toPPs L.procs).length) (h0 : k < (toPPs L0.procs).length) (hp : ((toPPs L.procs)[k]).phase = 13 ∨ ((toPPs L.procs)[k]).phase = 14) : ((toPPs L.procs)[k]).phase = ((toPPs L0.procs)[k]).phase ∧ ((toPPs L.procs)[k]).node = ((toPPs L0.procs)[k]).node ∧ ((toPPs L.procs)[k]).ticket = ((toPPs L0.procs)[k]).ticket := by
  have ha := h.all k h0
  unfold arrived at ha
  rcases ha with a | a | a | a
  · rcases h.wait k hk h0 (Or.inl a) with x | x
    · exact x
    · omega
  · rcases h.wait k hk h0 (Or.inr a) with x | x
    · exact x
    · omega
  · rcases h.out k hk h0 a with x | x <;> omega
  · have := h.done k hk h0 a
    omega

set_option maxHeartbeats 4000000 in
theorem RJ.step {c : Conf} {L0 L : Lay} {P : PLay} {dn : List Nat} (h : RJ c L0 L dn) (hr : CRel c L P) (ht : TkOk L) (rm : RmOk c L) {i : Nat} (hi : i < L.procs.length) (hl : (L.procs[i]).2.phase ≠ 20) (draw : Int) : RJ c L0 (lstep L i draw) (i :: dn) := by
  obtain ⟨v, n, hh⟩ := hr.rel.here hi hl
  have hil : i < (toPPs L.procs).length := by rw [toPPs_len]; exact hi
  have hi0 : i < (toPPs L0.procs).length := by have := h.len; omega
  have hpi : (toPPs L.procs)[i] = toPP (L.procs[i]).2 := toPPs_at _ _ hi hil
  have hat : (L.procs[i]).2.node = (v : Int) := hh.at'
  have h1v := hh.v1
  have hvN := hh.vN
  obtain ⟨p, ep⟩ : ∃ p, (L.procs[i]).2 = p := ⟨_, rfl⟩
  rw [ep] at hh hpi hl hat
  have q1 : (toPP p).phase = p.phase := rfl
  have q2 : (toPP p).node = p.node := rfl
  have q3 : (toPP p).ticket = p.ticket := rfl
  have hph : p.phase = 13 ∨ p.phase = 14 ∨ p.phase = 19 := by
    have ha := h.all i hi0
    unfold arrived at ha
    rcases ha with a | a | a | a
    · rcases h.wait i hil hi0 (Or.inl a) with x | x
      · rw [hpi] at x; omega
      · rw [hpi] at x; omega
    · rcases h.wait i hil hi0 (Or.inr a) with x | x
      · rw [hpi] at x; omega
      · rw [hpi] at x; omega
    · rcases h.out i hil hi0 a with x | x <;> rw [hpi] at x <;> omega
    · have := h.done i hil hi0 a
      rw [hpi] at this
      omega
  obtain ⟨q', e1, e2, e3, k13, k14, k19⟩ := hh.arrs draw hph
  have hd : p.phase = 19 → q'.phase = 20 ∨ (q'.phase = 19 ∧ dQ q' + 1 = dQ (toPP p)) := by
    intro x
    rcases k19 x with y | ⟨y1, y2, y3⟩
    · exact Or.inl y
    · right
      refine ⟨y1, ?_⟩
      have hlu := log2_up ⟨v, hh.v32⟩ h1v (by show v / 2 ≠ 0; omega)
      simp only at hlu
      unfold dQ
      rw [y2, q2, hat, Int.toNat_natCast]
      have : ((v : Int) / 2).toNat = v / 2 := by omega
      rw [this, hlu]
  -- who moves from Store or Fetch could go on
  have hen : ∀ j0 : ((toPPs L0.procs)[i]).phase = 13 ∨ ((toPPs L0.procs)[i]).phase = 14, (p.phase = ((toPPs L0.procs)[i]).phase ∧ p.node = ((toPPs L0.procs)[i]).node ∧ p.ticket = ((toPPs L0.procs)[i]).ticket) → q'.phase = 19 → enQ c L0 (toPPs L0.procs)[i] := by
    intro j0 ⟨s1, s2, s3⟩ hq
    have nd : ((toPPs L0.procs)[i]).node.toNat = v := by omega
    have hf := hh.isLeaf (by omega) (by omega)
    have a := ht.at' v h1v hvN hf
    obtain ⟨_, sp, sg⟩ := h.same v
    obtain ⟨t, et⟩ : ∃ t : Nat, p.ticket = (t : Int) := ⟨p.ticket.toNat, by have := hh.q.tick.1; omega⟩
    rcases j0 with j0 | j0
    · left
      refine ⟨j0, ?_⟩
      rw [nd, ← s3, ← sg]
      rcases k13 (by omega) with ⟨ro, _⟩ | ⟨_, y⟩
      · unfold roomyH at ro
        simp only [Bool.or_eq_true, decide_eq_true_eq] at ro
        rcases ro with z | z
        · omega
        · have h2 : 0 ≤ p.ticket - roomOf c v := by
            unfold takenH at z
            simp only [Bool.and_eq_true, decide_eq_true_eq] at z
            exact z.1
          obtain ⟨k, ek⟩ : ∃ k : Nat, p.ticket - roomOf c v = (k : Int) := ⟨(p.ticket - roomOf c v).toNat, by omega⟩
          rw [ek] at z
          have := a.tk k z
          omega
      · rw [y, q1] at hq
        omega
    · right
      refine ⟨j0, ?_⟩
      rw [nd, ← s3, ← sp]
      rcases k14 (by omega) with ⟨it, _⟩ | ⟨_, y⟩
      · rw [et] at it ⊢
        exact (rm v h1v hvN hf t (Or.inl it)).2
      · rw [y, q1] at hq
        omega
  -- the first of those who can go on goes on
  have hmin : minQ c L0 (toPPs L0.procs)[i] → (p.phase = ((toPPs L0.procs)[i]).phase ∧ p.node = ((toPPs L0.procs)[i]).node ∧ p.ticket = ((toPPs L0.procs)[i]).ticket) → p.phase = 13 ∨ p.phase = 14 → q'.phase = 19 := by
    intro hm ⟨s1, s2, s3⟩ hp
    have nd : ((toPPs L0.procs)[i]).node.toNat = v := by omega
    have hf := hh.isLeaf (by omega) (by omega)
    have a := ht.at' v h1v hvN hf
    obtain ⟨_, sp, sg⟩ := h.same v
    have hrp := room_pos hr.rel.may v
    obtain ⟨t, et⟩ : ∃ t : Nat, p.ticket = (t : Int) := ⟨p.ticket.toNat, by have := hh.q.tick.1; omega⟩
    obtain ⟨he, hmn⟩ := hm
    rcases hp with hp | hp
    · rcases k13 hp with ⟨_, y, _⟩ | ⟨ro, _⟩
      · exact y
      · exfalso
        have hen0 : p.ticket < roomOf c v + manyH 7 (-1) (L.hist v) := by
          rcases he with ⟨_, z⟩ | ⟨z, _⟩
          · rw [nd, ← sg] at z
            omega
          · omega
        unfold roomyH at ro
        simp only [Bool.or_eq_false_iff, decide_eq_false_iff_not] at ro
        obtain ⟨k, ek⟩ : ∃ k : Nat, p.ticket - roomOf c v = (k : Int) := ⟨(p.ticket - roomOf c v).toNat, by omega⟩
        rw [ek] at ro
        rcases a.get k (by omega) with z | ⟨j, hj, j1, j2, j3⟩
        · rw [z] at ro
          exact absurd ro.2 (by decide)
        · have hj0 : j < (toPPs L0.procs).length := by have := h.len; omega
          obtain ⟨o1, o2, o3⟩ := h.old hj hj0 (Or.inr j1)
          have hpu : p.ticket < putsH (L.hist v) := by
            have := (hh.q.tick.2.2 hp).2
            rw [hh.toNat] at this
            exact this
          have := hmn j hj0 (Or.inr ⟨by omega, by
            have : ((toPPs L0.procs)[j]).node.toNat = v := by omega
            rw [this, ← sp]
            omega⟩) (by omega)
          unfold tauQ at this
          rw [if_pos (show ((toPPs L0.procs)[i]).phase = 13 by omega), if_neg (show ¬ ((toPPs L0.procs)[j]).phase = 13 by omega)] at this
          omega
    · rcases k14 hp with ⟨_, y, _⟩ | ⟨it, _⟩
      · exact y
      · exfalso
        have hen0 : p.ticket < putsH (L.hist v) := by
          rcases he with ⟨z, _⟩ | ⟨_, z⟩
          · omega
          · rw [nd, ← sp] at z
            omega
        have g14 := ht.g14 i hil (by rw [hpi, q1]; exact hp)
        rw [hpi, q2, q3, hat, Int.toNat_natCast] at g14
        rw [et] at it g14 hen0
        rcases a.put t hen0 with z | z | ⟨j, hj, j1, j2, j3⟩
        · exact z it
        · rw [g14.2] at z
          exact absurd z (by decide)
        · have hj0 : j < (toPPs L0.procs).length := by have := h.len; omega
          obtain ⟨o1, o2, o3⟩ := h.old hj hj0 (Or.inl j1)
          have := hmn j hj0 (Or.inl ⟨by omega, by
            have : ((toPPs L0.procs)[j]).node.toNat = v := by omega
            rw [this, ← sg]
            have := g14.1
            omega⟩) (by omega)
          unfold tauQ at this
          rw [if_neg (show ¬ ((toPPs L0.procs)[i]).phase = 13 by omega), if_pos (show ((toPPs L0.procs)[j]).phase = 13 by omega)] at this
          omega
  have key : ∀ l : List PP, l = (toPPs L.procs).set i q' → ∀ j, (hj : j < l.length) → (h0 : j < (toPPs L0.procs).length) →
      ((((toPPs L0.procs)[j]).phase = 13 ∨ ((toPPs L0.procs)[j]).phase = 14) → ((l[j]).phase = ((toPPs L0.procs)[j]).phase ∧ (l[j]).node = ((toPPs L0.procs)[j]).node ∧ (l[j]).ticket = ((toPPs L0.procs)[j]).ticket) ∨ (((l[j]).phase = 19 ∨ (l[j]).phase = 20) ∧ enQ c L0 (toPPs L0.procs)[j])) ∧
      (((toPPs L0.procs)[j]).phase = 19 → (l[j]).phase = 20 ∨ ((l[j]).phase = 19 ∧ dQ (l[j]) ≤ dQ (toPPs L0.procs)[j])) ∧
      (((toPPs L0.procs)[j]).phase = 20 → (l[j]).phase = 20) ∧
      (j ∈ i :: dn → ((toPPs L0.procs)[j]).phase = 19 → (l[j]).phase = 20 ∨ ((l[j]).phase = 19 ∧ dQ (l[j]) + 1 ≤ dQ (toPPs L0.procs)[j])) ∧
      (j ∈ i :: dn → minQ c L0 (toPPs L0.procs)[j] → (l[j]).phase = 19 ∨ (l[j]).phase = 20) := by
    intro l el j hj h0
    subst el
    rcases set_get hj with ⟨ej, e⟩ | ⟨hji, hj0, e⟩
    · subst ej
      rw [e]
      have w := h.wait j hil h0
      have o := h.out j hil h0
      have dd := h.done j hil h0
      rw [hpi] at w o dd
      refine ⟨fun x => ?_, fun x => ?_, fun x => ?_, fun _ x => ?_, fun _ hm => ?_⟩
      · rcases w x with ⟨s1, s2, s3⟩ | ⟨s1, s2⟩
        · rw [q1] at s1; rw [q2] at s2; rw [q3] at s3
          rcases hph with y | y | y
          · rcases k13 y with ⟨_, z, _⟩ | ⟨_, z⟩
            · exact Or.inr ⟨Or.inl z, hen x ⟨s1, s2, s3⟩ z⟩
            · left
              rw [z]
              exact ⟨s1, s2, s3⟩
          · rcases k14 y with ⟨_, z, _⟩ | ⟨_, z⟩
            · exact Or.inr ⟨Or.inl z, hen x ⟨s1, s2, s3⟩ z⟩
            · left
              rw [z]
              exact ⟨s1, s2, s3⟩
          · omega
        · right
          rw [q1] at s1
          rcases hd (by omega) with z | z
          · exact ⟨Or.inr z, s2⟩
          · exact ⟨Or.inl z.1, s2⟩
      · rcases o x with z | ⟨z, z2⟩
        · rw [q1] at z; omega
        · rw [q1] at z
          rcases hd z with y | y
          · exact Or.inl y
          · exact Or.inr ⟨y.1, by omega⟩
      · have := dd x
        rw [q1] at this
        omega
      · rcases o x with z | ⟨z, z2⟩
        · rw [q1] at z; omega
        · rw [q1] at z
          rcases hd z with y | y
          · exact Or.inl y
          · exact Or.inr ⟨y.1, by omega⟩
      · have x : ((toPPs L0.procs)[j]).phase = 13 ∨ ((toPPs L0.procs)[j]).phase = 14 := by
          rcases hm.1 with z | z
          · exact Or.inl z.1
          · exact Or.inr z.1
        rcases w x with ⟨s1, s2, s3⟩ | ⟨s1, _⟩
        · rw [q1] at s1; rw [q2] at s2; rw [q3] at s3
          exact Or.inl (hmin hm ⟨s1, s2, s3⟩ (by omega))
        · rw [q1] at s1
          rcases hd (by omega) with z | z
          · exact Or.inr z
          · exact Or.inl z.1
    · rw [e]
      have mem : j ∈ i :: dn → j ∈ dn := by
        intro z
        rcases List.mem_cons.1 z with y | y
        · exact absurd y hji
        · exact y
      exact ⟨h.wait j hj0 h0, h.out j hj0 h0, h.done j hj0 h0, fun z => h.t19 j (mem z) hj0 h0, fun z => h.tmin j (mem z) hj0 h0⟩
  have hlen : (toPPs (lstep L i draw).procs).length = (toPPs L0.procs).length := by rw [e1]; simpa using h.len
  refine ⟨hlen, by rw [e2]; exact h.past, fun u => ?_, h.all, fun j hj h0 => (key _ e1 j hj h0).1, fun j hj h0 => (key _ e1 j hj h0).2.1, fun j hj h0 => (key _ e1 j hj h0).2.2.1, fun j hm hj h0 => (key _ e1 j hj h0).2.2.2.1 hm, fun j hm hj h0 => (key _ e1 j hj h0).2.2.2.2 hm⟩
  obtain ⟨a1, a2, a3⟩ := e3 u
  obtain ⟨b1, b2, b3⟩ := h.same u
  exact ⟨a1.trans b1, a2.trans b2, a3.trans b3⟩

end Go.Proofs.Ytjnmpejcegmkhab

namespace Go.Proofs.Ytjnmpejcegmkhab
open Go.RowKit

theorem work_low {D : Nat} {s r : Int} (hs : 0 ≤ s) (hr : 0 ≤ r) (sh : Bool) (k ph pat : Int) (d : Nat) (hd : d ≤ D) (h6 : ph = 6 → 0 ≤ pat ∧ pat ≤ s) (h16 : ph = 16 → 0 ≤ pat ∧ pat ≤ r) (hin : 3 ≤ ph → ph ≤ 11 → d < D) (h0 : 0 ≤ ph ∧ ph ≤ 19) (hna : ph ≠ 13 ∧ ph ≠ 14 ∧ ph ≠ 19) :
    (D : Int) + 3 ≤ work D s r sh k ph pat d := by
  have g0 := AA_ge D s hs (D - d)
  have g1 := AA_ge D s hs (D - (d + 1))
  have gd := AA_down D s (d := d)
  have hbase : (D : Int) + 5 ≤ baseW D s r k d := by
    unfold baseW
    split <;> omega
  have hx : ph = 0 ∨ ph = 1 ∨ ph = 2 ∨ ph = 3 ∨ ph = 4 ∨ ph = 5 ∨ ph = 6 ∨ ph = 7 ∨ ph = 8 ∨ ph = 9 ∨ ph = 10 ∨ ph = 11 ∨ ph = 12 ∨ ph = 15 ∨ ph = 16 ∨ ph = 17 ∨ ph = 18 := by omega
  replace h6 : Hid _ := h6
  replace h16 : Hid _ := h16
  replace hin : Hid _ := hin
  replace gd : Hid _ := gd
  clear h0 hna
  rcases hx with rfl | rfl | rfl | rfl | rfl | rfl | rfl | rfl | rfl | rfl | rfl | rfl | rfl | rfl | rfl | rfl | rfl
  · cases sh <;> simp [work] <;> omega
  · simp [work]; omega
  · cases sh <;> simp [work] <;> omega
  · have := gd.out (hin.out (by decide) (by decide))
    simp [work]; omega
  · have := gd.out (hin.out (by decide) (by decide))
    simp [work]; omega
  · have := gd.out (hin.out (by decide) (by decide))
    simp [work]; omega
  · have := h6.out rfl
    simp [work]; omega
  · simp [work]; omega
  · simp [work]; omega
  · simp [work]; omega
  · simp [work]; omega
  · simp [work]; omega
  · simp [work]
  · simp [work]; omega
  · have := h16.out rfl
    simp [work]; omega
  · simp [work]
  · simp [work]

theorem phi_up3 {c : Conf} {L : Lay} {P : PLay} (h : CRel c L P) (pk : PatOk c L) {i : Nat} (hi : i < L.procs.length) : (¬ arrived (toPP (L.procs[i]).2) → c.depth + 3 ≤ phi c (toPPs L.procs) (toPP (L.procs[i]).2)) ∧ phi c (toPPs L.procs) (toPP (L.procs[i]).2) ≤ calmR c - 2 * c.procs := by
  have hcf := h.rel.confs
  have hd0 := h.rel.drain0
  obtain ⟨a1, a2, a3⟩ := sum_hold hd0.1 L.procs pk
  have a3i := a3 i hi
  have hfull := h.rel.full
  obtain ⟨h1, h2, h3⟩ := hold_range c.drain (L.procs[i]).2.kind (L.procs[i]).2.phase (L.procs[i]).2.pat hd0.1 (pk i hi).2
  have e1 : holdQ c (toPP (L.procs[i]).2) = holdW c.drain (L.procs[i]).2.kind (L.procs[i]).2.phase (L.procs[i]).2.pat := rfl
  rw [e1] at a3i
  have hmul : (liveL L.procs : Int) * (c.drain + 6) ≤ c.procs * (c.drain + 6) := Int.mul_le_mul_of_nonneg_right hfull (by omega)
  have hcalm : calmR c = c.procs * (c.drain + 6) + 2 * c.procs + (c.drain + 8) + (c.depth + 1) * (c.spin + 12) := by
    unfold calmR
    have : (c.procs + 1) * (c.drain + 8) = c.procs * (c.drain + 6) + 2 * c.procs + (c.drain + 8) := by
      rw [Int.add_mul, Int.one_mul]
      have : c.drain + 8 = (c.drain + 6) + 2 := by omega
      rw [this, Int.mul_add]
      omega
    omega
  by_cases h20 : (L.procs[i]).2.phase = 20
  · have ew : workQ c (shQ (toPP (L.procs[i]).2).node (toPPs L.procs)) (toPP (L.procs[i]).2) = 0 := by
      unfold workQ
      show work _ _ _ _ _ (L.procs[i]).2.phase _ _ = 0
      rw [h20]
      simp [work]
    have hD0 : 0 ≤ (c.depth + 1) * (c.spin + 12) := Int.mul_nonneg (by omega) (by omega)
    refine ⟨fun na => absurd (Or.inr (Or.inr (Or.inr h20))) na, ?_⟩
    unfold Go.Proofs.Ytjnmpejcegmkhab.phi
    rw [ew, e1, hcalm]
    omega
  · obtain ⟨v, n, hh⟩ := h.rel.here hi h20
    have hph := hh.q.phase
    have hdv : dQ (toPP (L.procs[i]).2) = Nat.log2 v := by
      unfold dQ
      show Nat.log2 (L.procs[i]).2.node.toNat = _
      rw [hh.at', Int.toNat_natCast]
    have hvD : v < 2 ^ (c.depth.toNat + 1) := by rw [← h.rel.len]; exact hh.vN
    have hd : dQ (toPP (L.procs[i]).2) ≤ c.depth.toNat := by
      rw [hdv]
      have := (Nat.log2_lt (show v ≠ 0 by have := hh.v1; omega)).2 hvD
      omega
    have hin : 3 ≤ (L.procs[i]).2.phase → (L.procs[i]).2.phase ≤ 11 → dQ (toPP (L.procs[i]).2) < c.depth.toNat := by
      intro a b
      have hf := hh.q.inner a b
      rw [hh.at', Int.toNat_natCast] at hf
      have hk := (h.rel.kids v hh.v1 hh.vN hf).1
      rw [h.rel.len] at hk
      have h2 := (Nat.log2_lt (show 2 * v + 1 ≠ 0 by omega)).2 hk
      have h3 := (log2_kid ⟨v, hh.v32⟩ hh.v1).2
      simp only at h3
      omega
    obtain ⟨w1, w2⟩ := work_range (D := c.depth.toNat) (by omega) (s := c.spin) (r := c.drain) (by omega) hd0.1 (shQ (toPP (L.procs[i]).2).node (toPPs L.procs)) (L.procs[i]).2.kind (L.procs[i]).2.phase (L.procs[i]).2.pat (dQ (toPP (L.procs[i]).2)) hd (pk i hi).1 (pk i hi).2 hin (by omega)
    have ew : workQ c (shQ (toPP (L.procs[i]).2).node (toPPs L.procs)) (toPP (L.procs[i]).2) = work c.depth.toNat c.spin c.drain (shQ (toPP (L.procs[i]).2).node (toPPs L.procs)) (L.procs[i]).2.kind (L.procs[i]).2.phase (L.procs[i]).2.pat (dQ (toPP (L.procs[i]).2)) := rfl
    have eD : ((c.depth.toNat : Int) + 1) * (c.spin + 12) = (c.depth + 1) * (c.spin + 12) := by rw [Int.toNat_of_nonneg (by omega)]
    rw [eD] at w2
    unfold Go.Proofs.Ytjnmpejcegmkhab.phi
    rw [ew, e1, hcalm]
    refine ⟨fun na => ?_, by omega⟩
    have hna : (L.procs[i]).2.phase ≠ 13 ∧ (L.procs[i]).2.phase ≠ 14 ∧ (L.procs[i]).2.phase ≠ 19 := by
      unfold arrived at na
      have e : (toPP (L.procs[i]).2).phase = (L.procs[i]).2.phase := rfl
      rw [e] at na
      omega
    have wl := work_low (D := c.depth.toNat) (s := c.spin) (r := c.drain) (by omega) hd0.1 (shQ (toPP (L.procs[i]).2).node (toPPs L.procs)) (L.procs[i]).2.kind (L.procs[i]).2.phase (L.procs[i]).2.pat (dQ (toPP (L.procs[i]).2)) hd (pk i hi).1 (pk i hi).2 hin (by omega) hna
    omega


theorem sumQ_cmp (f g : PP → Int) : ∀ l l' : List PP, l.length = l'.length → (∀ k, (hk : k < l.length) → (hk' : k < l'.length) → f l[k] ≤ g l'[k]) → sumQ f l ≤ sumQ g l' ∧ (∀ k, (hk : k < l.length) → (hk' : k < l'.length) → f l[k] + 1 ≤ g l'[k] → sumQ f l + 1 ≤ sumQ g l')
  | [], [], _, _ => ⟨Int.le_refl _, fun k hk => absurd hk (Nat.not_lt_zero _)⟩
  | [], _ :: _, h, _ => by simp at h
  | _ :: _, [], h, _ => by simp at h
  | x :: r, y :: r', h, hp => by
    have h0 := hp 0 (by simp) (by simp)
    simp only [List.getElem_cons_zero] at h0
    obtain ⟨a, b⟩ := sumQ_cmp f g r r' (by simpa using h) fun k hk hk' => by
      have := hp (k + 1) (by simpa using hk) (by simpa using hk')
      simpa using this
    refine ⟨by simp only [sumQ]; omega, fun k hk hk' z => ?_⟩
    simp only [sumQ]
    match k, hk, hk', z with
    | 0, _, _, z => simp only [List.getElem_cons_zero] at z; omega
    | k + 1, hk, hk', z =>
      simp only [List.getElem_cons_succ] at z
      have := b k (by simpa using hk) (by simpa using hk') z
      omega
theorem sumQ_zero : ∀ l : List PP, sumQ (fun _ => 0) l = 0
  | [] => rfl
  | _ :: r => by simp only [sumQ]; rw [sumQ_zero r]; rfl

def behQ (c : Conf) (L : Lay) (q0 q : PP) : Int := if enQ c L q ∧ q.node = q0.node ∧ tauQ q ≤ tauQ q0 then 1 else 0
/-- How many can go on there, ahead of it and itself. -/
def BQ (c : Conf) (L : Lay) (q0 : PP) : Int := sumQ (behQ c L q0) (toPPs L.procs)

theorem BQ_one {c : Conf} {L : Lay} {j : Nat} (hj : j < (toPPs L.procs).length) (he : enQ c L (toPPs L.procs)[j]) : 1 ≤ BQ c L (toPPs L.procs)[j] := by
  have := (sumQ_cmp (fun _ => 0) (behQ c L (toPPs L.procs)[j]) (toPPs L.procs) (toPPs L.procs) rfl fun k hk _ => by unfold behQ; split <;> omega).2 j hj hj (by
    unfold behQ
    rw [if_pos ⟨he, rfl, Int.le_refl _⟩]
    decide)
  rw [sumQ_zero] at this
  unfold BQ
  omega

theorem min_ex {c : Conf} {L : Lay} (h0 : ∀ k, (hk : k < (toPPs L.procs).length) → 0 ≤ tauQ (toPPs L.procs)[k]) : ∀ n : Nat, ∀ j, (hj : j < (toPPs L.procs).length) → enQ c L (toPPs L.procs)[j] → tauQ (toPPs L.procs)[j] ≤ n → ∃ m, ∃ hm : m < (toPPs L.procs).length, minQ c L (toPPs L.procs)[m] ∧ ((toPPs L.procs)[m]).node = ((toPPs L.procs)[j]).node ∧ tauQ (toPPs L.procs)[m] ≤ tauQ (toPPs L.procs)[j]
  | n, j, hj, he, hn => by
    by_cases hm : minQ c L (toPPs L.procs)[j]
    · exact ⟨j, hj, hm, rfl, Int.le_refl _⟩
    · have : ∃ k, ∃ hk : k < (toPPs L.procs).length, enQ c L (toPPs L.procs)[k] ∧ ((toPPs L.procs)[k]).node = ((toPPs L.procs)[j]).node ∧ tauQ (toPPs L.procs)[k] < tauQ (toPPs L.procs)[j] := by
        apply Classical.byContradiction
        intro hn
        refine hm ⟨he, fun k hk a b => ?_⟩
        apply Classical.byContradiction
        intro z
        exact hn ⟨k, hk, a, b, by omega⟩
      obtain ⟨k, hk, a, b, d⟩ := this
      have hk0 := h0 k hk
      match n, hn with
      | 0, hn => omega
      | n + 1, hn =>
        obtain ⟨m, hm, x, y, z⟩ := min_ex h0 n k hk a (by omega)
        exact ⟨m, hm, x, y.trans b, by omega⟩

theorem RJ.fall {c : Conf} {L0 L : Lay} {dn : List Nat} (h : RJ c L0 L dn) (h0 : ∀ k, (hk : k < (toPPs L0.procs).length) → 0 ≤ tauQ (toPPs L0.procs)[k]) (hall : ∀ i, (hi : i < (toPPs L.procs).length) → i ∈ dn ∨ ((toPPs L.procs)[i]).phase = 20) {j : Nat} (hj : j < (toPPs L.procs).length) (hj0 : j < (toPPs L0.procs).length) (he : enQ c L (toPPs L.procs)[j]) : BQ c L (toPPs L.procs)[j] + 1 ≤ BQ c L0 (toPPs L0.procs)[j] := by
  have alike : ∀ k, (hk : k < (toPPs L.procs).length) → (hk0 : k < (toPPs L0.procs).length) → enQ c L (toPPs L.procs)[k] → enQ c L0 (toPPs L0.procs)[k] ∧ ((toPPs L.procs)[k]).node = ((toPPs L0.procs)[k]).node ∧ tauQ (toPPs L.procs)[k] = tauQ (toPPs L0.procs)[k] := by
    intro k hk hk0 e
    have hp : ((toPPs L.procs)[k]).phase = 13 ∨ ((toPPs L.procs)[k]).phase = 14 := by
      rcases e with x | x
      · exact Or.inl x.1
      · exact Or.inr x.1
    obtain ⟨o1, o2, o3⟩ := h.old hk hk0 hp
    obtain ⟨_, s2, s3⟩ := h.same ((toPPs L0.procs)[k]).node.toNat
    refine ⟨?_, o2, by unfold tauQ; rw [o1, o3]⟩
    unfold enQ at e ⊢
    rw [o1, o2, o3, s2, s3] at e
    exact e
  obtain ⟨a1, a2, a3⟩ := alike j hj hj0 he
  obtain ⟨m, hm0, m1, m2, m3⟩ := min_ex h0 (tauQ (toPPs L0.procs)[j]).toNat j hj0 a1 (by have := h0 j hj0; omega)
  have hm : m < (toPPs L.procs).length := by have := h.len; omega
  have gone : ((toPPs L.procs)[m]).phase = 19 ∨ ((toPPs L.procs)[m]).phase = 20 := by
    rcases hall m hm with x | x
    · exact h.tmin m x hm hm0 m1
    · exact Or.inr x
  refine (sumQ_cmp (behQ c L (toPPs L.procs)[j]) (behQ c L0 (toPPs L0.procs)[j]) _ _ h.len fun k hk hk0 => ?_).2 m hm hm0 ?_
  · unfold behQ
    by_cases e : enQ c L (toPPs L.procs)[k] ∧ ((toPPs L.procs)[k]).node = ((toPPs L.procs)[j]).node ∧ tauQ (toPPs L.procs)[k] ≤ tauQ (toPPs L.procs)[j]
    · obtain ⟨b1, b2, b3⟩ := alike k hk hk0 e.1
      rw [if_pos e, if_pos ⟨b1, by rw [← b2, ← a2]; exact e.2.1, by rw [← b3, ← a3]; exact e.2.2⟩]
      exact Int.le_refl _
    · rw [if_neg e]
      split <;> omega
  · unfold behQ
    rw [if_neg (fun e => by
      rcases e.1 with x | x
      · omega
      · omega), if_pos ⟨m1.1, m2, m3⟩]
    decide

/-- Between two rounds in which everybody has arrived. -/
structure StageR (c : Conf) (L : Lay) (k : Int) : Prop where
  arr : ∀ j, (hj : j < (toPPs L.procs).length) → arrived (toPPs L.procs)[j]
  en : ∀ j, (hj : j < (toPPs L.procs).length) → enQ c L (toPPs L.procs)[j] → BQ c L (toPPs L.procs)[j] + k ≤ c.procs
  out : ∀ j, (hj : j < (toPPs L.procs).length) → ((toPPs L.procs)[j]).phase = 19 → (dQ (toPPs L.procs)[j] : Int) + 1 + k ≤ c.procs + c.depth + 1

theorem tau_nonneg {c : Conf} {L : Lay} {P : PLay} (h : CRel c L P) : ∀ k, (hk : k < (toPPs L.procs).length) → 0 ≤ tauQ (toPPs L.procs)[k] := by
  intro k hk
  have hk0 : k < L.procs.length := by rw [toPPs_len] at hk; exact hk
  rw [toPPs_at _ _ hk0]
  have := (h.rel.qs k hk0).tick.1
  have e : (toPP (L.procs[k]).2).ticket = (L.procs[k]).2.ticket := rfl
  unfold tauQ
  rw [e]
  split <;> omega

theorem dQ_le {c : Conf} {L : Lay} {P : PLay} (h : CRel c L P) {j : Nat} (hj : j < (toPPs L.procs).length) (hl : ((toPPs L.procs)[j]).phase ≠ 20) : (dQ (toPPs L.procs)[j] : Int) ≤ c.depth := by
  have hj0 : j < L.procs.length := by rw [toPPs_len] at hj; exact hj
  rw [toPPs_at _ _ hj0] at hl ⊢
  obtain ⟨u, a, b, d, _⟩ := (h.rel.qs j hj0).live hl
  unfold dQ
  have e : (toPP (L.procs[j]).2).node = (L.procs[j]).2.node := rfl
  rw [e, a, Int.toNat_natCast]
  have := (Nat.log2_lt (show u ≠ 0 by omega)).2 (by rw [← h.rel.len]; exact d)
  have := h.rel.confs
  omega

theorem live_sum : ∀ ps : Prs, sumQ (fun q => if q.phase = 20 then 0 else 1) (toPPs ps) = (liveL ps : Int)
  | [] => rfl
  | x :: r => by
    have := live_sum r
    show (if (toPP x.2).phase = 20 then (0 : Int) else 1) + sumQ _ (toPPs r) = _
    rw [this]
    have e : (toPP x.2).phase = x.2.phase := rfl
    rw [e]
    simp only [liveL]
    push_cast
    split <;> simp

theorem StageR.start {c : Conf} {L : Lay} {P : PLay} (h : CRel c L P) (ha : ∀ j, (hj : j < (toPPs L.procs).length) → arrived (toPPs L.procs)[j]) : StageR c L 0 := by
  refine ⟨ha, fun j hj he => ?_, fun j hj h19 => ?_⟩
  · have h1 := (sumQ_cmp (behQ c L (toPPs L.procs)[j]) (fun q => if q.phase = 20 then 0 else 1) (toPPs L.procs) (toPPs L.procs) rfl fun k hk _ => by
      unfold behQ
      split
      · rename_i e
        rw [if_neg (by rcases e.1 with x | x <;> omega)]
        decide
      · split <;> decide).1
    rw [live_sum] at h1
    have := h.rel.full
    unfold BQ
    omega
  · have := dQ_le h hj (by omega)
    have := h.rel.full
    omega

theorem StageR.next {c : Conf} {L0 L : Lay} {P0 P : PLay} {dn : List Nat} {k : Int} (s : StageR c L0 k) (h0 : CRel c L0 P0) (h : CRel c L P) (r : RJ c L0 L dn) (hall : ∀ i, (hi : i < (toPPs L.procs).length) → i ∈ dn ∨ ((toPPs L.procs)[i]).phase = 20) : StageR c L (k + 1) := by
  refine ⟨fun j hj => ?_, fun j hj he => ?_, fun j hj h19 => ?_⟩
  · have hj0 : j < (toPPs L0.procs).length := by have := r.len; omega
    have ha := s.arr j hj0
    unfold arrived at ha ⊢
    rcases ha with a | a | a | a
    · rcases r.wait j hj hj0 (Or.inl a) with x | x <;> omega
    · rcases r.wait j hj hj0 (Or.inr a) with x | x <;> omega
    · rcases r.out j hj hj0 a with x | x <;> omega
    · have := r.done j hj hj0 a
      omega
  · have hj0 : j < (toPPs L0.procs).length := by have := r.len; omega
    have hp : ((toPPs L.procs)[j]).phase = 13 ∨ ((toPPs L.procs)[j]).phase = 14 := by
      rcases he with x | x
      · exact Or.inl x.1
      · exact Or.inr x.1
    obtain ⟨o1, o2, o3⟩ := r.old hj hj0 hp
    have f := r.fall (tau_nonneg h0) hall hj hj0 he
    have he0 : enQ c L0 (toPPs L0.procs)[j] := by
      obtain ⟨_, s2, s3⟩ := r.same ((toPPs L0.procs)[j]).node.toNat
      unfold enQ at he ⊢
      rw [o1, o2, o3, s2, s3] at he
      exact he
    have := s.en j hj0 he0
    omega
  · have hj0 : j < (toPPs L0.procs).length := by have := r.len; omega
    have hd := dQ_le h hj (by omega)
    have ha := s.arr j hj0
    unfold arrived at ha
    rcases ha with a | a | a | a
    · rcases r.wait j hj hj0 (Or.inl a) with x | x
      · omega
      · have := s.en j hj0 x.2
        have := BQ_one hj0 x.2
        omega
    · rcases r.wait j hj hj0 (Or.inr a) with x | x
      · omega
      · have := s.en j hj0 x.2
        have := BQ_one hj0 x.2
        omega
    · rcases hall j hj with x | x
      · rcases r.t19 j x hj hj0 a with y | y
        · omega
        · have := s.out j hj0 a
          omega
      · omega
    · have := r.done j hj hj0 a
      omega

theorem StageR.fin {c : Conf} {L : Lay} {k : Int} (s : StageR c L k) (hp : 0 ≤ c.procs ∧ 0 ≤ c.depth) (hk : c.procs + c.depth + 1 ≤ k) : FinOk c L := by
  intro j hj
  have ha := s.arr j hj
  unfold arrived at ha
  rcases ha with a | a | a | a
  · right; left
    refine ⟨a, Int.not_lt.1 fun z => ?_⟩
    have e : enQ c L (toPPs L.procs)[j] := Or.inl ⟨a, z⟩
    have := s.en j hj e
    have := BQ_one hj e
    omega
  · right; right
    refine ⟨a, Int.not_lt.1 fun z => ?_⟩
    have e : enQ c L (toPPs L.procs)[j] := Or.inr ⟨a, z⟩
    have := s.en j hj e
    have := BQ_one hj e
    omega
  · have := s.out j hj a
    omega
  · exact Or.inl a

end Go.Proofs.Ytjnmpejcegmkhab

namespace Go.Proofs.Ytjnmpejcegmkhab
open Go.RowKit

/-- Number x has been handed out by a leaf that there is now. -/
def Iss (L : Lay) (x : Int) : Prop := ∃ u t : Nat, 1 ≤ u ∧ u < L.past.length ∧ formH (L.hist u) = 2 ∧ x = (rank u : Int) + t * 2 ^ Nat.log2 u ∧ (t : Int) < putsH (L.hist u)

def endedI (q : PP) : Prop := q.kind = 0 ∧ (q.phase = 19 ∨ q.phase = 20)

structure NumOk (L : Lay) : Prop where
  iss : ∀ i, (hi : i < L.procs.length) → endedI (toPP (L.procs[i]).2) → Iss L (L.procs[i]).2.val
  diff : ∀ i j, (hi : i < L.procs.length) → (hj : j < L.procs.length) → i ≠ j → endedI (toPP (L.procs[i]).2) → endedI (toPP (L.procs[j]).2) → (L.procs[i]).2.val ≠ (L.procs[j]).2.val

/-- Two leaves hand out no number in common. -/
theorem rank_apart : ∀ u : Fin 32, ∀ v : Fin 32, 1 ≤ u.1 → 1 ≤ v.1 → u.1 ≠ v.1 → undB u.1 v.1 = false → undB v.1 u.1 = false → rank u.1 % 2 ^ (min (Nat.log2 u.1) (Nat.log2 v.1)) ≠ rank v.1 % 2 ^ (min (Nat.log2 u.1) (Nat.log2 v.1)) := by decide +kernel

theorem num_apart {u v : Nat} (hu : u < 32) (hv : v < 32) (u1 : 1 ≤ u) (v1 : 1 ≤ v) (hne : u ≠ v) (h1 : undB u v = false) (h2 : undB v u = false) (s t : Nat) : (rank u : Int) + s * 2 ^ Nat.log2 u ≠ (rank v : Int) + t * 2 ^ Nat.log2 v := by
  intro e
  have hr := rank_apart ⟨u, hu⟩ ⟨v, hv⟩ u1 v1 hne h1 h2
  simp only at hr
  have e' : rank u + s * 2 ^ Nat.log2 u = rank v + t * 2 ^ Nat.log2 v := by
    have : ((rank u + s * 2 ^ Nat.log2 u : Nat) : Int) = ((rank v + t * 2 ^ Nat.log2 v : Nat) : Int) := by push_cast; exact e
    omega
  apply hr
  have d1 : 2 ^ (min (Nat.log2 u) (Nat.log2 v)) ∣ s * 2 ^ Nat.log2 u := Nat.dvd_trans (Nat.pow_dvd_pow 2 (Nat.min_le_left _ _)) (Nat.dvd_mul_left _ _)
  have d2 : 2 ^ (min (Nat.log2 u) (Nat.log2 v)) ∣ t * 2 ^ Nat.log2 v := Nat.dvd_trans (Nat.pow_dvd_pow 2 (Nat.min_le_right _ _)) (Nat.dvd_mul_left _ _)
  generalize 2 ^ (min (Nat.log2 u) (Nat.log2 v)) = M at *
  obtain ⟨a, ha⟩ := d1
  obtain ⟨b, hb⟩ := d2
  rw [ha, hb] at e'
  have m1 : (rank u + M * a) % M = rank u % M := Nat.add_mul_mod_self_left _ _ _
  have m2 : (rank v + M * b) % M = rank v % M := Nat.add_mul_mod_self_left _ _ _
  rw [← m1, ← m2, e']

section
variable {c : Conf} {L : Lay} {P : PLay} {i v : Nat} {p : Pr} {n : PN}

/-- Of two leaves neither is below the other. -/
theorem leaf_apart (h : CRel c L P) {u v : Nat} (u1 : 1 ≤ u) (hu : u < L.past.length) (hf : formH (L.hist u) = 2) (hv : v < L.past.length) (hg : formH (L.hist v) ≠ 3) (hne : v ≠ u) : undB u v = false := by
  have hN := h.rel.lenle
  cases hh : undB u v with
  | false => rfl
  | true =>
    exfalso
    have key : ∀ w, w < L.past.length → w ≠ u → undB u w = true → formH (L.hist w) = 3 := by
      intro w
      induction w using Nat.strongRecOn with
      | _ w ih =>
        intro hw hne hun
        obtain ⟨a, b⟩ := und_half ⟨u, by omega⟩ ⟨w, by omega⟩ u1 hne hun
        simp only at a b
        by_cases e3 : formH (L.hist w) = 3
        · exact e3
        · have hp := h.ck.ci.par w b hw e3
          by_cases eu : w / 2 = u
          · rw [eu] at hp
            omega
          · have := ih (w / 2) (by omega) (by omega) eu a
            omega
    exact hg (key v hv hne hh)

theorem over_facts (l : Hist) (ev : Ev) (iv : Value) (h3 : 3 < ev.what) : formH ((ev, iv) :: l) = formH l ∧ putsH l ≤ putsH ((ev, iv) :: l) := by
  have hn3 : ¬ ev.what ≤ 3 := by omega
  constructor
  · simp [formH, hn3]
  · unfold putsH
    simp [fromH, manyH, hn3, h3]
    split <;> omega

theorem Here.over (h : Here c L P i v p n) (draw : Int) (h17 : p.phase ≠ 17) (u : Nat) : formH ((lstep L i draw).hist u) = formH (L.hist u) ∧ putsH (L.hist u) ≤ putsH ((lstep L i draw).hist u) := by
  have hv := h.vN
  have same : ∀ L' : Lay, L'.hist u = L.hist u → formH (L'.hist u) = formH (L.hist u) ∧ putsH (L.hist u) ≤ putsH (L'.hist u) := fun L' e => by rw [e]; exact ⟨rfl, Int.le_refl _⟩
  have happ : ∀ (q p' : Pr) (ev : Ev), 3 < ev.what → formH ((((L.setP i q).hap v nilV ev nilV).setP i p').hist u) = formH (L.hist u) ∧ putsH (L.hist u) ≤ putsH ((((L.setP i q).hap v nilV ev nilV).setP i p').hist u) := by
    intro q p' ev h3
    have e : (((L.setP i q).hap v nilV ev nilV).setP i p').hist u = if u = v then (ev, nilV) :: L.hist v else L.hist u := hist_hap (L.setP i q) v u nilV ev nilV hv
    rw [e]
    by_cases eu : u = v
    · rw [if_pos eu, eu]
      exact over_facts _ _ _ h3
    · rw [if_neg eu]
      exact ⟨rfl, Int.le_refl _⟩
  rw [h.lat draw, h.lget]
  simp only
  split
  · split
    · exact same _ rfl
    · split
      · exact same _ rfl
      · exact same _ rfl
  · split
    · exact happ _ _ _ (by show (3 : Int) < 5; decide)
    · split
      · exact happ _ _ _ (by show (3 : Int) < 5; decide)
      · split
        · exact happ _ _ _ (by show (3 : Int) < 4; decide)
        · split
          · split
            · exact happ _ _ _ (by show (3 : Int) < 6; decide)
            · split
              · exact happ _ _ _ (by show (3 : Int) < 6; decide)
              · exact happ _ _ _ (by show (3 : Int) < 7; decide)
          · split
            · split
              · exact happ _ _ _ (by show (3 : Int) < 8; decide)
              · exact same _ rfl
            · split
              · split
                · exact happ _ _ _ (by show (3 : Int) < 9; decide)
                · exact same _ rfl
              · exact same _ rfl

theorem Here.val19 (h : Here c L P i v p n) (draw : Int) {p' : Pr} (hw : Went L i v p p' (lstep L i draw)) (e19 : p.phase = 19) : p'.val = p.val := by
  have hi := h.hi
  have el : lstep L i draw = (L.setP i (incPr p)).setP i (upPr (incPr p)) := by
    rw [h.lat draw, h.lget]
    simp only
    rw [if_neg (by omega), if_neg (by omega), if_neg (by omega), if_neg (by omega), if_neg (by omega), if_neg (by omega), if_neg (by omega), if_neg (by omega)]
    unfold lmove
    have ein : (incPr p).phase = p.phase := rfl
    rw [ein, if_neg (by omega), if_neg (by omega), if_neg (by omega), if_neg (by omega), if_neg (by omega), if_neg (by omega), if_neg (by omega), if_neg (by omega), if_neg (by omega), if_neg (by omega), if_neg (by omega), if_pos e19]
  have e := hw.procs
  have e2 : ∀ q : Pr, toPPs ((L.setP i (incPr p)).setP i q).procs = (toPPs L.procs).set i (toPP q) := by
    intro q
    rw [toPPs_setP, toPPs_setP, List.set_set]
  rw [el, e2] at e
  have := (toPPs_setP_get (by rw [toPPs_len]; exact hi) e).symm
  have := (pp_told this).2.2.2.2.2.1
  rw [this]
  rfl

theorem Here.val12 (h : Here c L P i v p n) (draw : Int) {p' : Pr} (hw : Went L i v p p' (lstep L i draw)) (e12 : p.phase = 12) (k0 : p.kind = 0) : p'.val = (rank v : Int) + putsH (L.hist v) * 2 ^ Nat.log2 v ∧ putsH ((lstep L i draw).hist v) = putsH (L.hist v) + 1 := by
  have hi := h.hi
  have el : lstep L i draw = ((L.setP i (incPr p)).hap v nilV ⟨6, 0, 0, []⟩ nilV).setP i { incPr p with val := rank v + putsH (L.hist v) * 2 ^ Nat.log2 v, phase := 19 } := by
    rw [h.lat draw, h.lget]
    simp only
    rw [if_neg (by omega), if_neg (by omega), if_neg (by omega), if_neg (by omega), if_pos e12, if_pos k0]
  constructor
  · have e := hw.procs
    rw [el] at e
    have e2 : ∀ q : Pr, toPPs (((L.setP i (incPr p)).hap v nilV ⟨6, 0, 0, []⟩ nilV).setP i q).procs = (toPPs L.procs).set i (toPP q) := by
      intro q
      rw [toPPs_setP]
      show (toPPs (L.setP i (incPr p)).procs).set i _ = _
      rw [toPPs_setP, List.set_set]
    rw [e2] at e
    have := (toPPs_setP_get (by rw [toPPs_len]; exact hi) e).symm
    have := (pp_told this).2.2.2.2.2.1
    rw [this]
  · rw [el]
    have e : (((L.setP i (incPr p)).hap v nilV ⟨6, 0, 0, []⟩ nilV).setP i { incPr p with val := rank v + putsH (L.hist v) * 2 ^ Nat.log2 v, phase := 19 }).hist v = (⟨6, 0, 0, []⟩, nilV) :: L.hist v := by
      have := hist_hap (L.setP i (incPr p)) v v nilV ⟨6, 0, 0, []⟩ nilV h.vN
      rw [if_pos rfl] at this
      exact this
    rw [e]
    unfold putsH
    simp [fromH, manyH]
    omega
end

theorem Iss.over {L L' : Lay} (hl : L'.past.length = L.past.length) (h : ∀ u, formH (L'.hist u) = formH (L.hist u) ∧ putsH (L.hist u) ≤ putsH (L'.hist u)) {x : Int} (hx : Iss L x) : Iss L' x := by
  obtain ⟨u, t, a, b, d, e, f⟩ := hx
  obtain ⟨g1, g2⟩ := h u
  exact ⟨u, t, a, by omega, by rw [g1]; exact d, e, by omega⟩

end Go.Proofs.Ytjnmpejcegmkhab

namespace Go.Proofs.Ytjnmpejcegmkhab
open Go.RowKit

/-- Of a counter: who was met was met by an Inc; no Inc is in Fetch. -/
def MetQ (ps : Prs) (q : Pr) : Prop := ((q.phase = 6 ∨ q.phase = 7) → 0 ≤ q.met → kindAt ps q.met = 0) ∧ (q.kind = 0 → q.phase ≠ 14)
def MetOk (L : Lay) : Prop := ∀ i, (hi : i < L.procs.length) → MetQ L.procs (L.procs[i]).2

theorem MetQ.kinds {ps ps' : Prs} {q : Pr} (h : MetQ ps q) (hk : ∀ m, kindAt ps' m = kindAt ps m) : MetQ ps' q := ⟨fun a b => by rw [hk]; exact h.1 a b, h.2⟩

theorem met_one {L L' : Lay} (h : MetOk L) {i : Nat} (hi : i < L.procs.length) {pb : Nat} {p' : Pr} (hp : L'.procs = L.procs.set i (pb, p')) (hk : p'.kind = (L.procs[i]).2.kind) (hq : MetQ L.procs p') : MetOk L' := by
  intro j hj
  have hks : ∀ m, kindAt L'.procs m = kindAt L.procs m := fun m => by rw [hp]; exact kindAt_set hi hk m
  have hj' : j < L.procs.length := by rw [hp] at hj; simpa using hj
  by_cases e : j = i
  · subst e
    have : (L'.procs[j]).2 = p' := by
      have : ∀ (l : Prs) (hl : l = L.procs.set j (pb, p')) (hx : j < l.length), (l[j]).2 = p' := by
        intro l hl hx
        subst hl
        rw [List.getElem_set_self]
      exact this _ hp hj
    rw [this]
    exact hq.kinds hks
  · have : L'.procs[j] = L.procs[j] := by
      have : ∀ (l : Prs) (hl : l = L.procs.set i (pb, p')) (hx : j < l.length), l[j] = L.procs[j] := by
        intro l hl hx
        subst hl
        rw [List.getElem_set_ne (Ne.symm e)]
      exact this _ hp hj
    rw [this]
    exact (h j hj').kinds hks

section
variable {c : Conf} {L : Lay} {P : PLay} {i v : Nat} {p : Pr} {n : PN}

theorem Here.met (h : Here c L P i v p n) (ck : CK c L P) (hc : c.kind = 0) (draw : Int) (ht : MetOk L) : MetOk (lstep L i draw) := by
  have hi := h.hi
  have hep := h.ep
  have hph := h.q.phase
  have hlive := h.live
  have hcq := ck.ci.cq i hi
  rw [hep] at hcq
  have hkp := hcq.kp
  have hq0 := ht i hi
  rw [hep] at hq0
  have hkd := h.q.kind
  have no : ∀ q : Pr, q.kind = p.kind → ¬ (q.phase = 6 ∨ q.phase = 7) → q.phase ≠ 14 → MetQ L.procs q := fun q _ a b => ⟨fun x => absurd x a, fun _ => b⟩
  have stay : ∀ q p' : Pr, p'.kind = p.kind → MetQ L.procs p' → MetOk ((L.setP i q).setP i p') := by
    intro q p' e1 e2
    refine met_one ht hi (pb := (L.procs.getD i (0, q)).1) (p' := p') ?_ (by rw [hep]; exact e1) e2
    show (L.procs.set i _).set i _ = _
    rw [List.set_set]
    congr 2
    simp [List.getD_eq_getElem?_getD, hi]
  have one : ∀ p' : Pr, p'.kind = p.kind → MetQ L.procs p' → MetOk (L.setP i p') := fun p' e1 e2 => met_one ht hi (pb := (L.procs.getD i (0, p')).1) (p' := p') rfl (by rw [hep]; exact e1) e2
  have any : ∀ (L' : Lay) (q p' : Pr), L'.procs = (L.setP i q).procs → p'.kind = p.kind → MetQ L.procs p' → MetOk (L'.setP i p') := by
    intro L' q p' e0 e1 e2
    refine met_one ht hi (pb := (L.procs.getD i (0, q)).1) (p' := p') ?_ (by rw [hep]; exact e1) e2
    show L'.procs.set i _ = _
    rw [e0]
    show (L.procs.set i _).set i _ = _
    rw [List.set_set]
    congr 2
    simp [List.getD_eq_getElem?_getD, hi]
  rw [h.lat draw, h.lget]
  simp only
  by_cases e8 : p.phase = 8
  · rw [if_pos e8]
    obtain ⟨j, hm, hj, hji⟩ := h.q.mind e8
    have ej : p.mind.toNat = j := by omega
    rw [ej, List.getElem?_eq_getElem hj]
    simp only
    split
    · have kp3 : p.kind < 3 := Int.not_le.1 fun x => by have := hkp.chg x; omega
      have kp0 : p.kind = 0 := by omega
      have hyj := ht j hj
      obtain ⟨y, hy⟩ : ∃ y, (L.procs[j]).2 = y := ⟨_, rfl⟩
      rw [hy] at hyj ⊢
      obtain ⟨y', hy'⟩ : ∃ y' : Pr, y' = { y with met := (i : Int) } := ⟨_, rfl⟩
      rw [← hy']
      have ks : (settledPr (incPr p) y 1).kind = p.kind := by
        unfold settledPr
        split
        · rfl
        · split <;> rfl
      have ps : ¬ ((settledPr (incPr p) y 1).phase = 6 ∨ (settledPr (incPr p) y 1).phase = 7) ∧ (settledPr (incPr p) y 1).phase ≠ 14 := by
        unfold settledPr
        split
        · show ¬ ((0 : Int) = 6 ∨ (0 : Int) = 7) ∧ (0 : Int) ≠ 14
          decide
        · split
          · show ¬ ((19 : Int) = 6 ∨ (19 : Int) = 7) ∧ (19 : Int) ≠ 14
            decide
          · show ¬ ((19 : Int) = 6 ∨ (19 : Int) = 7) ∧ (19 : Int) ≠ 14
            decide
      have kat : kindAt L.procs (i : Int) = 0 := by
        unfold kindAt
        simp [hi, hep, kp0]
      have qy' : MetQ L.procs y' := by
        rw [hy']
        exact ⟨fun _ _ => kat, hyj.2⟩
      have ky' : y'.kind = (L.procs[j]).2.kind := by rw [hy', hy]
      generalize settledPr (incPr p) y 1 = p' at *
      obtain ⟨a, b, eproc⟩ : ∃ a b, (((L.setP i (incPr p)).setP j y').setP i p').procs = (L.procs.set j (a, y')).set i (b, p') := by
        have e3 : ∀ x0 x1 x2 : Nat × Pr, ((L.procs.set i x0).set j x1).set i x2 = (L.procs.set j x1).set i x2 := by
          intro x0 x1 x2
          rw [List.set_comm _ _ (Ne.symm hji), List.set_set]
        exact ⟨_, _, e3 _ (_, y') (_, p')⟩
      have h1 : MetOk ({ L with procs := L.procs.set j (a, y') } : Lay) := met_one ht hj rfl ky' qy'
      have hij : i < ({ L with procs := L.procs.set j (a, y') } : Lay).procs.length := by simpa using hi
      have egi : (({ L with procs := L.procs.set j (a, y') } : Lay).procs[i]).2 = p := by
        show ((L.procs.set j (a, y'))[i]).2 = p
        rw [List.getElem_set_ne hji]
        exact hep
      exact met_one h1 hij eproc (by rw [egi]; exact ks) ⟨fun x => absurd x ps.1, fun _ => ps.2⟩
    · exact stay _ _ rfl (no _ rfl (by show ¬ ((9 : Int) = 6 ∨ (9 : Int) = 7); decide) (by show (9 : Int) ≠ 14; decide))
  rw [if_neg e8]
  by_cases e9 : p.phase = 9
  · rw [if_pos e9]
    exact any _ (incPr p) _ rfl rfl (no _ rfl (by show ¬ ((11 : Int) = 6 ∨ (11 : Int) = 7); decide) (by show (11 : Int) ≠ 14; decide))
  rw [if_neg e9]
  by_cases e10 : p.phase = 10
  · rw [if_pos e10]
    exact any _ (incPr p) _ rfl rfl (no _ rfl (by show ¬ ((11 : Int) = 6 ∨ (11 : Int) = 7); decide) (by show (11 : Int) ≠ 14; decide))
  rw [if_neg e10]
  by_cases e11 : p.phase = 11
  · rw [if_pos e11]
    exact any _ (incPr p) _ rfl rfl (no _ rfl (by show ¬ ((0 : Int) = 6 ∨ (0 : Int) = 7); decide) (by show (0 : Int) ≠ 14; decide))
  rw [if_neg e11]
  by_cases e12 : p.phase = 12
  · rw [if_pos e12]
    split
    · exact any _ (incPr p) _ rfl rfl (no _ rfl (by show ¬ ((19 : Int) = 6 ∨ (19 : Int) = 7); decide) (by show (19 : Int) ≠ 14; decide))
    · rename_i k0
      split
      · exact any _ (incPr p) _ rfl rfl (no _ rfl (by show ¬ ((13 : Int) = 6 ∨ (13 : Int) = 7); decide) (by show (13 : Int) ≠ 14; decide))
      · exact any _ (incPr p) _ rfl rfl ⟨fun x => absurd x (by show ¬ ((14 : Int) = 6 ∨ (14 : Int) = 7); decide), fun x => absurd x k0⟩
  rw [if_neg e12]
  by_cases e13 : p.phase = 13
  · rw [if_pos e13]
    split
    · exact any _ (incPr p) _ rfl rfl (no _ rfl (by show ¬ ((19 : Int) = 6 ∨ (19 : Int) = 7); decide) (by show (19 : Int) ≠ 14; decide))
    · exact one _ rfl (no _ rfl (by show ¬ (p.phase = 6 ∨ p.phase = 7); omega) (by show p.phase ≠ 14; omega))
  rw [if_neg e13]
  by_cases e14 : p.phase = 14
  · rw [if_pos e14]
    split
    · exact any _ (incPr p) _ rfl rfl (no _ rfl (by show ¬ ((19 : Int) = 6 ∨ (19 : Int) = 7); decide) (by show (19 : Int) ≠ 14; decide))
    · exact one _ rfl ⟨fun x => absurd x (by show ¬ (p.phase = 6 ∨ p.phase = 7); omega), fun x => hq0.2 x⟩
  rw [if_neg e14]
  have upp : ∀ q : Pr, q.kind = p.kind → q.phase = p.phase → ¬ (p.phase = 6 ∨ p.phase = 7) → MetQ L.procs (upPr q) := by
    intro q a b d
    have hup : (upPr q).phase = 19 ∨ (upPr q).phase = 20 := by
      unfold upPr
      simp only
      split
      · exact Or.inr rfl
      · exact Or.inl rfl
    exact ⟨fun x => by omega, fun _ => by omega⟩
  by_cases e17 : p.phase = 17
  · rw [if_pos e17]
    split
    · exact any _ (incPr p) _ rfl rfl (upp _ rfl rfl (by omega))
    · split
      · exact stay _ _ rfl (upp _ rfl rfl (by omega))
      · exact any _ (incPr p) _ rfl rfl (upp _ rfl rfl (by omega))
  rw [if_neg e17]
  have hmv : (lmove (L.setP i (incPr p)) v (incPr p) draw).kind = p.kind ∧ MetQ L.procs (lmove (L.setP i (incPr p)) v (incPr p) draw) := by
    unfold lmove
    have ein : (incPr p).phase = p.phase := rfl
    rw [ein]
    by_cases e0 : p.phase = 0
    · rw [if_pos e0]
      exact ⟨rfl, no _ rfl (by show ¬ ((1 : Int) = 6 ∨ (1 : Int) = 7); decide) (by show (1 : Int) ≠ 14; decide)⟩
    rw [if_neg e0]
    by_cases e1 : p.phase = 1
    · rw [if_pos e1]
      split
      · exact ⟨rfl, no _ rfl (by show ¬ ((2 : Int) = 6 ∨ (2 : Int) = 7); decide) (by show (2 : Int) ≠ 14; decide)⟩
      · split
        · refine ⟨rfl, no _ rfl ?_ ?_⟩
          · show ¬ ((if _ then (3 : Int) else 12) = 6 ∨ (if _ then (3 : Int) else 12) = 7)
            split <;> decide
          · show (if _ then (3 : Int) else 12) ≠ 14
            split <;> decide
        · split
          · refine ⟨rfl, no _ rfl ?_ ?_⟩
            · show ¬ ((if _ then (15 : Int) else 0) = 6 ∨ (if _ then (15 : Int) else 0) = 7)
              split <;> decide
            · show (if _ then (15 : Int) else 0) ≠ 14
              split <;> decide
          · exact ⟨rfl, no _ rfl (by show ¬ ((19 : Int) = 6 ∨ (19 : Int) = 7); decide) (by show (19 : Int) ≠ 14; decide)⟩
    rw [if_neg e1]
    by_cases e2 : p.phase = 2
    · rw [if_pos e2]
      exact ⟨rfl, no _ rfl (by show ¬ ((0 : Int) = 6 ∨ (0 : Int) = 7); decide) (by show (0 : Int) ≠ 14; decide)⟩
    rw [if_neg e2]
    by_cases e3 : p.phase = 3
    · rw [if_pos e3]
      exact ⟨rfl, no _ rfl (by show ¬ ((4 : Int) = 6 ∨ (4 : Int) = 7); decide) (by show (4 : Int) ≠ 14; decide)⟩
    rw [if_neg e3]
    by_cases e4 : p.phase = 4
    · rw [if_pos e4]
      split
      · exact ⟨rfl, no _ rfl (by show ¬ ((5 : Int) = 6 ∨ (5 : Int) = 7); decide) (by show (5 : Int) ≠ 14; decide)⟩
      · split
        · split
          · exact ⟨rfl, no _ rfl (by show ¬ ((11 : Int) = 6 ∨ (11 : Int) = 7); decide) (by show (11 : Int) ≠ 14; decide)⟩
          · exact ⟨rfl, no _ rfl (by show ¬ ((8 : Int) = 6 ∨ (8 : Int) = 7); decide) (by show (8 : Int) ≠ 14; decide)⟩
        · exact ⟨rfl, no _ rfl (by show ¬ (p.phase = 6 ∨ p.phase = 7); omega) (by show p.phase ≠ 14; omega)⟩
    rw [if_neg e4]
    by_cases e5 : p.phase = 5
    · rw [if_pos e5]
      split
      · exact ⟨rfl, ⟨fun _ x => absurd x (by show ¬ (0 : Int) ≤ -1; decide), fun _ => by show (6 : Int) ≠ 14; decide⟩⟩
      · exact ⟨rfl, no _ rfl (by show ¬ ((9 : Int) = 6 ∨ (9 : Int) = 7); decide) (by show (9 : Int) ≠ 14; decide)⟩
    rw [if_neg e5]
    by_cases e6 : p.phase = 6
    · rw [if_pos e6]
      unfold waitPr
      split
      · exact ⟨rfl, ⟨fun _ x => hq0.1 (Or.inl e6) x, fun _ => by show (7 : Int) ≠ 14; decide⟩⟩
      · split
        · exact ⟨rfl, ⟨fun _ x => hq0.1 (Or.inl e6) x, fun _ => by show p.phase ≠ 14; omega⟩⟩
        · exact ⟨rfl, no _ rfl (by show ¬ ((10 : Int) = 6 ∨ (10 : Int) = 7); decide) (by show (10 : Int) ≠ 14; decide)⟩
    rw [if_neg e6]
    by_cases e7 : p.phase = 7
    · rw [if_pos e7]
      split
      · unfold settledPr
        split
        · exact ⟨rfl, no _ rfl (by show ¬ ((0 : Int) = 6 ∨ (0 : Int) = 7); decide) (by show (0 : Int) ≠ 14; decide)⟩
        · split
          · exact ⟨rfl, no _ rfl (by show ¬ ((19 : Int) = 6 ∨ (19 : Int) = 7); decide) (by show (19 : Int) ≠ 14; decide)⟩
          · exact ⟨rfl, no _ rfl (by show ¬ ((19 : Int) = 6 ∨ (19 : Int) = 7); decide) (by show (19 : Int) ≠ 14; decide)⟩
      · exact ⟨rfl, ⟨fun _ x => hq0.1 (Or.inr e7) x, fun _ => by show p.phase ≠ 14; omega⟩⟩
    rw [if_neg e7]
    by_cases e15 : p.phase = 15
    · rw [if_pos e15]
      unfold shutCh
      split
      · exact ⟨rfl, upp _ rfl rfl (by omega)⟩
      · exact ⟨rfl, no _ rfl (by show ¬ ((16 : Int) = 6 ∨ (16 : Int) = 7); decide) (by show (16 : Int) ≠ 14; decide)⟩
    rw [if_neg e15]
    by_cases e16 : p.phase = 16
    · rw [if_pos e16]
      unfold drainCh
      split
      · exact ⟨rfl, no _ rfl (by show ¬ ((17 : Int) = 6 ∨ (17 : Int) = 7); decide) (by show (17 : Int) ≠ 14; decide)⟩
      · split
        · exact ⟨rfl, no _ rfl (by show ¬ (p.phase = 6 ∨ p.phase = 7); omega) (by show p.phase ≠ 14; omega)⟩
        · exact ⟨rfl, no _ rfl (by show ¬ ((18 : Int) = 6 ∨ (18 : Int) = 7); decide) (by show (18 : Int) ≠ 14; decide)⟩
    rw [if_neg e16]
    by_cases e18 : p.phase = 18
    · rw [if_pos e18]
      exact ⟨rfl, upp _ rfl rfl (by omega)⟩
    rw [if_neg e18]
    by_cases e19 : p.phase = 19
    · rw [if_pos e19]
      exact ⟨rfl, upp _ rfl rfl (by omega)⟩
    omega
  exact stay _ _ hmv.1 hmv.2
end

end Go.Proofs.Ytjnmpejcegmkhab

namespace Go.Proofs.Ytjnmpejcegmkhab
open Go.RowKit

section
variable {c : Conf} {L : Lay} {P : PLay} {i v : Nat} {p : Pr} {n : PN}

/-- An Inc of a counter ends at a Ticket, or has ended. -/
theorem Here.ends (h : Here c L P i v p n) (ck : CK c L P) (hc : c.kind = 0) (draw : Int) (hm : MetOk L) {p' : Pr} (hw : Went L i v p p' (lstep L i draw)) (k0 : p.kind = 0) (he : p'.phase = 19 ∨ p'.phase = 20) : p.phase = 12 ∨ p.phase = 19 := by
  have hi := h.hi
  have hep := h.ep
  have ha := h.at'
  have hph := h.q.phase
  have hlive := h.live
  have hcq := ck.ci.cq i hi
  rw [hep] at hcq
  have hkp := hcq.kp
  have hq0 := hm i hi
  rw [hep] at hq0
  have hpm := hw.pm
  have w15 := hkp.walk (by omega)
  have t13 := h.q.tick.2.2
  have n14 := hq0.2 k0
  have hcand : p.phase = 1 ∨ p.phase = 7 ∨ p.phase = 8 ∨ p.phase = 12 ∨ p.phase = 19 := by
    have : p.phase = 1 ∨ p.phase = 7 ∨ p.phase = 8 ∨ p.phase = 12 ∨ p.phase = 13 ∨ p.phase = 14 ∨ p.phase = 15 ∨ p.phase = 17 ∨ p.phase = 18 ∨ p.phase = 19 := by
      generalize p.phase = a at *
      generalize p'.phase = b at *
      generalize p'.node = nd at *
      clear t13 n14 w15 hq0 hkp hcq
      cases hpm <;> omega
    have x13 : p.phase ≠ 13 := fun e => by have := (t13 e).1; omega
    omega
  have e2 : ∀ q : Pr, toPPs ((L.setP i (incPr p)).setP i q).procs = (toPPs L.procs).set i (toPP q) := by
    intro q
    rw [toPPs_setP, toPPs_setP, List.set_set]
  have hpr := hw.procs
  rcases hcand with e1 | e7 | e8 | e | e
  · exfalso
    have el : lstep L i draw = (L.setP i (incPr p)).setP i (lmove (L.setP i (incPr p)) v (incPr p) draw) := by
      rw [h.lat draw, h.lget]
      simp only
      rw [if_neg (by omega), if_neg (by omega), if_neg (by omega), if_neg (by omega), if_neg (by omega), if_neg (by omega), if_neg (by omega), if_neg (by omega)]
    rw [el, e2] at hpr
    have hp' := (pp_told (toPPs_setP_get (by rw [toPPs_len]; exact hi) hpr).symm).2.2.2.1
    rw [hp'] at he
    revert he
    unfold lmove
    have ein : (incPr p).phase = p.phase := rfl
    rw [ein, if_neg (by omega), if_pos e1]
    split
    · show ¬ ((2 : Int) = 19 ∨ (2 : Int) = 20)
      decide
    · rw [if_pos (show (incPr p).kind < 3 by show p.kind < 3; omega)]
      show ¬ ((if _ then (3 : Int) else 12) = 19 ∨ (if _ then (3 : Int) else 12) = 20)
      split <;> decide
  · exfalso
    have el : lstep L i draw = (L.setP i (incPr p)).setP i (lmove (L.setP i (incPr p)) v (incPr p) draw) := by
      rw [h.lat draw, h.lget]
      simp only
      rw [if_neg (by omega), if_neg (by omega), if_neg (by omega), if_neg (by omega), if_neg (by omega), if_neg (by omega), if_neg (by omega), if_neg (by omega)]
    rw [el, e2] at hpr
    have hp' := (pp_told (toPPs_setP_get (by rw [toPPs_len]; exact hi) hpr).symm).2.2.2.1
    rw [hp'] at he
    revert he
    unfold lmove
    have ein : (incPr p).phase = p.phase := rfl
    rw [ein, if_neg (by omega), if_neg (by omega), if_neg (by omega), if_neg (by omega), if_neg (by omega), if_neg (by omega), if_neg (by omega), if_pos e7]
    obtain ⟨k, hk, hs⟩ := h.slotk
    have hf := h.inner (by omega) (by omega)
    have hsr := h.slotRel hf hk
    have hwi : waitP v k (L.procs[i]).2 = true := by
      rw [hep]
      unfold waitP
      simp [ha, hs, e7]
    obtain ⟨b, hb, hbl⟩ : ∃ b : Nat, p.met = (b : Int) ∧ b < L.procs.length := by
      rcases hsr with ⟨_, x⟩ | ⟨j, hj, _, _, x3, x4⟩
      · rw [x i hi] at hwi
        exact absurd hwi (by decide)
      · have eij := x3 i hi hwi
        subst eij
        rw [hep] at x4
        rcases x4 with x4 | ⟨_, b, _, x5, x6, _⟩
        · omega
        · exact ⟨b, x5, x6⟩
    have hkat := hq0.1 (Or.inr e7) (by omega)
    have kb : (L.procs[b]).2.kind = 0 := by
      unfold kindAt at hkat
      rw [hb] at hkat
      simpa [hbl] using hkat
    have eM : ∃ y, (L.setP i (incPr p)).procs[(incPr p).met.toNat]? = some y ∧ y.2.kind = 0 := by
      have em : (incPr p).met.toNat = b := by show p.met.toNat = b; omega
      rw [em]
      by_cases eb : b = i
      · subst eb
        refine ⟨((L.procs.getD b (0, incPr p)).1, incPr p), ?_, k0⟩
        show (L.procs.set b _)[b]? = _
        rw [List.getElem?_set_self hi]
      · refine ⟨L.procs[b], ?_, kb⟩
        show (L.procs.set i _)[b]? = _
        rw [List.getElem?_set_ne (Ne.symm eb), List.getElem?_eq_getElem hbl]
    obtain ⟨y, ey, ky⟩ := eM
    rw [ey]
    simp only
    unfold settledPr
    rw [if_pos (show ({ incPr p with met := -1 } : Pr).kind = y.2.kind by rw [ky]; exact k0)]
    show ¬ ((0 : Int) = 19 ∨ (0 : Int) = 20)
    decide
  · exfalso
    obtain ⟨j, hmj, hj, hji⟩ := h.q.mind e8
    have ej : p.mind.toNat = j := by omega
    by_cases hme : meets (L.setP i (incPr p)) (incPr p) (L.procs[j]).2 = true
    · have el : lstep L i draw = ((L.setP i (incPr p)).setP j { (L.procs[j]).2 with met := (i : Int) }).setP i (settledPr (incPr p) (L.procs[j]).2 1) := by
        rw [h.lat draw, h.lget]
        simp only
        rw [if_pos e8, ej, List.getElem?_eq_getElem hj]
        simp only
        rw [if_pos hme]
      have y6 : (L.procs[j]).2.phase = 6 := by
        unfold meets at hme
        simp only [Bool.and_eq_true, decide_eq_true_eq] at hme
        exact hme.1.2
      have hqj := (h.rel.qs j hj).kind
      have hkj := (ck.ci.cq j hj).kp
      have kj3 : (L.procs[j]).2.kind < 3 := Int.not_le.1 fun x => by have := hkj.chg x; omega
      have kj0 : (L.procs[j]).2.kind = 0 := by omega
      have hi' : i < (lstep L i draw).procs.length := by rw [went_len hw]; exact hi
      have hs := went_self hw hi'
      have hl : ∀ (M : Lay) (hM : M = ((L.setP i (incPr p)).setP j { (L.procs[j]).2 with met := (i : Int) }).setP i (settledPr (incPr p) (L.procs[j]).2 1)) (hx : i < M.procs.length), (M.procs[i]).2 = settledPr (incPr p) (L.procs[j]).2 1 := by
        intro M hM hx
        subst hM
        show ((((L.procs.set i _).set j _).set i _)[i]).2 = _
        rw [List.getElem_set_self]
      rw [hl _ el hi'] at hs
      have hp' := (pp_told hs).2.2.2.1
      rw [← hp'] at he
      revert he
      unfold settledPr
      rw [if_pos (show (incPr p).kind = (L.procs[j]).2.kind by rw [kj0]; exact k0)]
      show ¬ ((0 : Int) = 19 ∨ (0 : Int) = 20)
      decide
    · have el : lstep L i draw = (L.setP i (incPr p)).setP i { incPr p with phase := 9 } := by
        rw [h.lat draw, h.lget]
        simp only
        rw [if_pos e8, ej, List.getElem?_eq_getElem hj]
        simp only
        rw [if_neg hme]
      rw [el, e2] at hpr
      have hp' := (pp_told (toPPs_setP_get (by rw [toPPs_len]; exact hi) hpr).symm).2.2.2.1
      rw [hp'] at he
      revert he
      show ¬ ((9 : Int) = 19 ∨ (9 : Int) = 20)
      decide
  · exact Or.inl e
  · exact Or.inr e

theorem Here.num_over (h : Here c L P i v p n) (hr : CRel c L P) (hc : c.kind = 0) (draw : Int) (hm : MetOk L) (hn : NumOk L) (h17 : p.phase ≠ 17) : NumOk (lstep L i draw) := by
  obtain ⟨p', hw⟩ := h.went hr.ck draw
  have hi := h.hi
  have hep := h.ep
  have hlen := went_len hw
  have hov := h.over draw h17
  have hN := hr.rel.lenle
  have hv := h.vN
  -- who has ended: as before, or the one that took a number
  have key : ∀ j, (hj : j < (lstep L i draw).procs.length) → endedI (toPP ((lstep L i draw).procs[j]).2) →
      (∃ hj0 : j < L.procs.length, endedI (toPP (L.procs[j]).2) ∧ ((lstep L i draw).procs[j]).2.val = (L.procs[j]).2.val) ∨
      (j = i ∧ formH (L.hist v) = 2 ∧ ((lstep L i draw).procs[j]).2.val = (rank v : Int) + putsH (L.hist v) * 2 ^ Nat.log2 v ∧ putsH ((lstep L i draw).hist v) = putsH (L.hist v) + 1) := by
    intro j hj he
    have hj0 : j < L.procs.length := by omega
    by_cases e : j = i
    · subst e
      have hs := went_self hw hj
      rw [hs] at he
      have hval := (pp_told hs).2.2.2.2.2.1
      have k0 : p.kind = 0 := by rw [← hw.op.1]; exact he.1
      rcases h.ends hr.ck hc draw hm hw k0 he.2 with e12 | e19
      · obtain ⟨a, b⟩ := h.val12 draw hw e12 k0
        exact Or.inr ⟨rfl, h.isLeaf (by omega) (by omega), by rw [hval]; exact a, b⟩
      · refine Or.inl ⟨hj0, ?_, ?_⟩
        · rw [hep]
          exact ⟨k0, Or.inl e19⟩
        · rw [hval, hep]
          exact h.val19 draw hw e19
    · have ho := went_other hw j hj0 hj e
      rw [ho] at he
      exact Or.inl ⟨hj0, he, (pp_told ho).2.2.2.2.2.1⟩
  have hpos : 0 ≤ putsH (L.hist v) := by
    have := hr.rel.fn v hv
    unfold putsH
    omega
  have clash : ∀ x : Int, Iss L x → formH (L.hist v) = 2 → x ≠ (rank v : Int) + putsH (L.hist v) * 2 ^ Nat.log2 v := by
    rintro x ⟨u, t, u1, hu, hf, rfl, ht⟩ hfv
    obtain ⟨s, hs⟩ := Int.eq_ofNat_of_zero_le hpos
    rw [hs]
    by_cases e : u = v
    · subst e
      rw [hs] at ht
      intro e
      have hlt : (t : Int) * 2 ^ Nat.log2 u < (s : Int) * 2 ^ Nat.log2 u := by
        have hp : (0 : Int) < 2 ^ Nat.log2 u := by
          have := Nat.two_pow_pos (Nat.log2 u)
          have e2 : ((2 ^ Nat.log2 u : Nat) : Int) = 2 ^ Nat.log2 u := by push_cast; rfl
          omega
        exact Int.mul_lt_mul_of_pos_right ht hp
      omega
    · exact num_apart (by omega) h.v32 u1 h.v1 e (leaf_apart hr u1 hu hf hv h.f3 (Ne.symm e)) (leaf_apart hr h.v1 hv hfv hu (by rw [hf]; decide) e) t s
  refine ⟨fun j hj he => ?_, fun j k hj hk hne hej hek => ?_⟩
  · rcases key j hj he with ⟨hj0, a, b⟩ | ⟨_, a, b, d⟩
    · rw [b]
      exact Iss.over hw.past hov (hn.iss j hj0 a)
    · obtain ⟨s, hs⟩ := Int.eq_ofNat_of_zero_le hpos
      refine ⟨v, s, h.v1, by rw [hw.past]; exact hv, by rw [(hov v).1]; exact a, by rw [b, hs], by rw [d, hs]; show (s : Int) < (s : Int) + 1; omega⟩
  · rcases key j hj hej with ⟨hj0, a, b⟩ | ⟨ej, a, b, _⟩
    · rcases key k hk hek with ⟨hk0, a', b'⟩ | ⟨ek, a', b', _⟩
      · rw [b, b']
        exact hn.diff j k hj0 hk0 hne a a'
      · rw [b, b']
        exact clash _ (hn.iss j hj0 a) a'
    · rcases key k hk hek with ⟨hk0, a', b'⟩ | ⟨ek, a', b', _⟩
      · rw [b, b']
        exact fun e => clash _ (hn.iss k hk0 a') a e.symm
      · omega
end

end Go.Proofs.Ytjnmpejcegmkhab

namespace Go.Proofs.Ytjnmpejcegmkhab
open Go.RowKit

theorem leaf_ev (l : Hist) (m : Int) (its : List Int) (iv : Value) : formH ((⟨2, m, 0, its⟩, iv) :: l) = 2 ∧ putsH ((⟨2, m, 0, its⟩, iv) :: l) = m := by
  constructor
  · simp [formH]
  · simp [putsH, fromH, manyH]

section
variable {c : Conf} {L : Lay} {P : PLay} {i v : Nat} {p : Pr} {n : PN}

theorem Here.iss17 (h : Here c L P i v p n) (hr : CRel c L P) (hc : c.kind = 0) (draw : Int) (h17 : p.phase = 17) {x : Int} (hx : Iss L x) : Iss (lstep L i draw) x := by
  have ck := hr.ck
  have tg := h.target17 ck h17
  have hkid := tg.kid
  have h1v := h.v1
  have hv := h.vN
  have hv32 := h.v32
  have hcL := h.rel.cL
  have hkd := hr.ck.ci.cq i h.hi
  rw [h.ep] at hkd
  have hk3 : 3 ≤ p.kind := Int.not_lt.1 fun x => hkd.kp.walk x (by omega)
  obtain ⟨k1, k2, k3, k4, _, _⟩ := rank_kid ⟨v, hv32⟩ h1v
  simp only at k1 k2 k3 k4
  obtain ⟨u, t, u1, hu, hf, rfl, ht⟩ := hx
  rw [h.lat draw, h.lget]
  simp only
  rw [if_neg (by omega), if_neg (by omega), if_neg (by omega), if_neg (by omega), if_neg (by omega), if_neg (by omega), if_neg (by omega), if_pos h17]
  split
  · have hfv : formH (L.hist v) = 2 := by rw [tg.form, if_neg (by omega)]
    have hno : ∀ w, w / 2 = v → 2 ≤ w → w < L.past.length → formH (L.hist w) = 3 := by
      intro w hw h2 hwN
      by_cases f : formH (L.hist w) = 3
      · exact f
      · have := ck.ci.par w h2 hwN f
        rw [hw] at this
        omega
    have f0 := hno (2 * v) (by omega) (by omega) (by omega)
    have f1 := hno (2 * v + 1) (by omega) (by omega) hkid
    have hN : unfN (L.setP i (incPr p)) v = putsH (L.hist v) := by
      unfold unfN
      show (if L.c.kind = 0 then putsH (L.hist v) else _) = _
      rw [hcL, if_pos hc]
    generalize hL' : ((L.setP i (incPr p)).unfolded v nilV nilV nilV nilV nilV).setP i (upPr { incPr p with val := 1 }) = L'
    have hlen : L'.past.length = L.past.length := by rw [← hL']; simp
    have hst : ∀ w, w ≠ v → w ≠ 2 * v → w ≠ 2 * v + 1 → L'.hist w = L.hist w := by
      intro w a b d
      rw [← hL']
      show ((L.setP i (incPr p)).unfolded v nilV nilV nilV nilV nilV).hist w = L.hist w
      unfold Lay.unfolded
      rw [hap_hist _ _ _ _ _ _ (by simp; omega) d, hap_hist _ _ _ _ _ _ (by simp; omega) b, hap_hist _ _ _ _ _ _ (by exact hv) a]
      rfl
    have hs0 : ∃ its, L'.hist (2 * v) = (⟨2, (putsH (L.hist v) + 1) / 2, 0, its⟩, nilV) :: L.hist (2 * v) := by
      refine ⟨evT (itemsH (L.hist v)) (itemsH (L.hist v)).length, ?_⟩
      rw [← hL']
      show ((L.setP i (incPr p)).unfolded v nilV nilV nilV nilV nilV).hist (2 * v) = _
      unfold Lay.unfolded
      rw [hap_hist _ _ _ _ _ _ (by simp; omega) (by omega), hist_hap _ _ _ _ _ _ (by simp; omega), if_pos rfl, hap_hist _ _ _ _ _ _ (by exact hv) (by omega), hN]
      rfl
    have hs1 : ∃ its, L'.hist (2 * v + 1) = (⟨2, putsH (L.hist v) / 2, 0, its⟩, nilV) :: L.hist (2 * v + 1) := by
      refine ⟨odT (itemsH (L.hist v)) (itemsH (L.hist v)).length, ?_⟩
      rw [← hL']
      show ((L.setP i (incPr p)).unfolded v nilV nilV nilV nilV nilV).hist (2 * v + 1) = _
      unfold Lay.unfolded
      rw [hist_hap _ _ _ _ _ _ (by simp; omega), if_pos rfl, hap_hist _ _ _ _ _ _ (by simp; omega) (by omega), hap_hist _ _ _ _ _ _ (by exact hv) (by omega), hN]
      rfl
    obtain ⟨i0, hs0⟩ := hs0
    obtain ⟨i1, hs1⟩ := hs1
    by_cases eu : u = v
    · subst eu
      have l0 := leaf_ev (L.hist (2 * u)) ((putsH (L.hist u) + 1) / 2) i0 nilV
      have l1 := leaf_ev (L.hist (2 * u + 1)) (putsH (L.hist u) / 2) i1 nilV
      rw [← hs0] at l0
      rw [← hs1] at l1
      have hpw : (2 : Int) ^ (Nat.log2 u + 1) = 2 * 2 ^ Nat.log2 u := by rw [Int.pow_succ]; omega
      by_cases ev : t % 2 = 0
      · refine ⟨2 * u, t / 2, by omega, by omega, l0.1, ?_, by rw [l0.2]; omega⟩
        rw [k1, k3, hpw]
        have e : (t : Int) = 2 * ((t / 2 : Nat) : Int) := by omega
        rw [show (t : Int) * 2 ^ Nat.log2 u = (2 * ((t / 2 : Nat) : Int)) * 2 ^ Nat.log2 u by rw [← e]]
        rw [Int.mul_comm 2 ((t / 2 : Nat) : Int), Int.mul_assoc]
      · refine ⟨2 * u + 1, t / 2, by omega, by rw [hlen]; exact hkid, l1.1, ?_, by rw [l1.2]; omega⟩
        rw [k2, k4, hpw]
        have e : (t : Int) = 2 * ((t / 2 : Nat) : Int) + 1 := by omega
        rw [show (t : Int) * 2 ^ Nat.log2 u = (2 * ((t / 2 : Nat) : Int) + 1) * 2 ^ Nat.log2 u by rw [← e]]
        rw [Int.add_mul, Int.mul_comm 2 ((t / 2 : Nat) : Int), Int.mul_assoc]
        push_cast
        omega
    · have n0 : u ≠ 2 * v := fun e => by rw [e, f0] at hf; omega
      have n1 : u ≠ 2 * v + 1 := fun e => by rw [e, f1] at hf; omega
      have es := hst u eu n0 n1
      exact ⟨u, t, u1, by omega, by rw [es]; exact hf, rfl, by rw [es]; exact ht⟩
  · split
    · exact ⟨u, t, u1, hu, hf, rfl, ht⟩
    · rename_i hk4 hno
      have k3' : p.kind = 3 := by have := hkd.kinds; omega
      have hfv : formH (L.hist v) = 1 := by rw [tg.form, if_pos k3']
      obtain ⟨kk1, kk2, kk3⟩ := h.rel.kids v h1v hv hfv
      have r0 := (h.rel.nodes (2 * v) (by omega) (by omega)).form
      have r1 := (h.rel.nodes (2 * v + 1) (by omega) hkid).form
      have f0 : formH (L.hist (2 * v)) = 2 := by omega
      have f1 : formH (L.hist (2 * v + 1)) = 2 := by omega
      have c0 := h.bal_count ck tg hc _ (Or.inr (Or.inl rfl)) f0
      have c1 := h.bal_count ck tg hc _ (Or.inr (Or.inr rfl)) f1
      have htog : balH (L.hist (2 * v)) - balH (L.hist (2 * v + 1)) = togH (L.hist v) := by
        have hl := h.rel.lenle
        have e := ck.ci.even v h1v hv hfv
        rw [even_quiet hkid (by omega) h1v ?_ tg.even] at e
        · omega
        · intro w hw w0 w1 hs
          exact leaf_below (by omega) h.v32 h1v ck.ci.par (fun x => x = 2 * v ∨ x = 2 * v + 1) (Or.inr (fun x hx => by omega)) (fun x hx => by rcases hx with e | e <;> rw [e] <;> omega) w hw hs (by omega)
      have ht01 : togH (L.hist v) = 0 ∨ togH (L.hist v) = 1 := by unfold togH; omega
      have hN : foldN (L.setP i (incPr p)) v = putsH (L.hist (2 * v)) + putsH (L.hist (2 * v + 1)) := by
        unfold foldN
        show (if L.c.kind = 0 then putsH (L.hist (2 * v)) + putsH (L.hist (2 * v + 1)) else _) = _
        rw [hcL, if_pos hc]
      generalize hL' : ((L.setP i (incPr p)).folded v nilV nilV nilV nilV).setP i (upPr { incPr p with val := 1 }) = L'
      have hlen : L'.past.length = L.past.length := by rw [← hL']; simp
      have hst : ∀ w, w ≠ v → w ≠ 2 * v → w ≠ 2 * v + 1 → L'.hist w = L.hist w := by
        intro w a b d
        rw [← hL']
        show ((L.setP i (incPr p)).folded v nilV nilV nilV nilV).hist w = L.hist w
        unfold Lay.folded
        rw [hap_hist _ _ _ _ _ _ (by simp; omega) a, hap_hist _ _ _ _ _ _ (by simp; omega) d, hap_hist _ _ _ _ _ _ (by simp; omega) b]
        rfl
      have hsv : L'.hist v = (⟨2, putsH (L.hist (2 * v)) + putsH (L.hist (2 * v + 1)), 0, alt (itemsH (L.hist (2 * v))) (itemsH (L.hist (2 * v + 1)))⟩, nilV) :: L.hist v := by
        rw [← hL']
        show ((L.setP i (incPr p)).folded v nilV nilV nilV nilV).hist v = _
        unfold Lay.folded
        rw [hist_hap _ _ _ _ _ _ (by simp; omega), if_pos rfl, hap_hist _ _ _ _ _ _ (by simp; omega) (by omega), hap_hist _ _ _ _ _ _ (by simp; omega) (by omega), hN]
        rfl
      have lv := leaf_ev (L.hist v) (putsH (L.hist (2 * v)) + putsH (L.hist (2 * v + 1))) (alt (itemsH (L.hist (2 * v))) (itemsH (L.hist (2 * v + 1)))) nilV
      rw [← hsv] at lv
      have hpw : (2 : Int) ^ (Nat.log2 v + 1) = 2 * 2 ^ Nat.log2 v := by rw [Int.pow_succ]; omega
      by_cases e0 : u = 2 * v
      · subst e0
        refine ⟨v, 2 * t, h1v, by omega, lv.1, ?_, by rw [lv.2]; push_cast; omega⟩
        rw [k1, k3, hpw]
        push_cast
        rw [Int.mul_comm 2 (t : Int), Int.mul_assoc]
      · by_cases e1 : u = 2 * v + 1
        · subst e1
          refine ⟨v, 2 * t + 1, h1v, by omega, lv.1, ?_, by rw [lv.2]; push_cast; omega⟩
          rw [k2, k4, hpw]
          push_cast
          rw [Int.add_mul, Int.mul_comm 2 (t : Int), Int.mul_assoc]
          omega
        · have nv : u ≠ v := fun e => by rw [e, hfv] at hf; omega
          have es := hst u nv e0 e1
          exact ⟨u, t, u1, by omega, by rw [es]; exact hf, rfl, by rw [es]; exact ht⟩

theorem Here.num (h : Here c L P i v p n) (hr : CRel c L P) (hc : c.kind = 0) (draw : Int) (hm : MetOk L) (hn : NumOk L) : NumOk (lstep L i draw) := by
  by_cases h17 : p.phase = 17
  · obtain ⟨p', hw⟩ := h.went hr.ck draw
    have hlen := went_len hw
    have hkd := hr.ck.ci.cq i h.hi
    rw [h.ep] at hkd
    have hk3 : 3 ≤ p.kind := Int.not_lt.1 fun x => hkd.kp.walk x (by omega)
    have key : ∀ j, (hj : j < (lstep L i draw).procs.length) → endedI (toPP ((lstep L i draw).procs[j]).2) → ∃ hj0 : j < L.procs.length, endedI (toPP (L.procs[j]).2) ∧ ((lstep L i draw).procs[j]).2.val = (L.procs[j]).2.val := by
      intro j hj he
      have hj0 : j < L.procs.length := by omega
      by_cases e : j = i
      · subst e
        exfalso
        rw [went_self hw hj] at he
        have : p'.kind = 0 := he.1
        rw [hw.op.1] at this
        omega
      · have ho := went_other hw j hj0 hj e
        rw [ho] at he
        exact ⟨hj0, he, (pp_told ho).2.2.2.2.2.1⟩
    refine ⟨fun j hj he => ?_, fun j k hj hk hne hej hek => ?_⟩
    · obtain ⟨hj0, a, b⟩ := key j hj he
      rw [b]
      exact h.iss17 hr hc draw h17 (hn.iss j hj0 a)
    · obtain ⟨hj0, a, b⟩ := key j hj hej
      obtain ⟨hk0, a', b'⟩ := key k hk hek
      rw [b, b']
      exact hn.diff j k hj0 hk0 hne a a'
  · exact h.num_over hr hc draw hm hn h17
end

end Go.Proofs.Ytjnmpejcegmkhab

namespace Go.Proofs.Ytjnmpejcegmkhab
open Go.RowKit

section
variable {c : Conf} {L : Lay} {P : PLay}

end

end Go.Proofs.Ytjnmpejcegmkhab

namespace Go.Proofs.Ytjnmpejcegmkhab
open Go.RowKit

structure YOk (L : Lay) : Prop where
  met : MetOk L
  num : NumOk L

theorem YOk.step {c : Conf} {L : Lay} {P : PLay} (h : CRel c L P) (hc : c.kind = 0) (x : YOk L) {i : Nat} (hi : i < L.procs.length) (hl : (L.procs[i]).2.phase ≠ 20) (draw : Int) : YOk (lstep L i draw) := by
  obtain ⟨v, n, hh⟩ := h.rel.here hi hl
  exact ⟨hh.met h.ck hc draw x.met, hh.num h hc draw x.met x.num⟩

theorem YOk.spawn {c : Conf} {L : Lay} {P : PLay} (h : CRel c L P) (x : YOk L) (o : Op3) : YOk { L with procs := L.procs ++ [(0, newPr o)] } := by
  have hph : (newPr o).phase = 0 ∨ (newPr o).phase = 15 := by
    unfold newPr
    simp only
    split
    · exact Or.inr rfl
    · exact Or.inl rfl
  have get : ∀ i, (hi : i < (L.procs ++ [(0, newPr o)]).length) → (∃ hi0 : i < L.procs.length, (L.procs ++ [(0, newPr o)])[i] = L.procs[i]) ∨ ((L.procs ++ [(0, newPr o)])[i]).2 = newPr o := by
    intro i hi
    by_cases e : i < L.procs.length
    · exact Or.inl ⟨e, List.getElem_append_left e⟩
    · right
      have hi' := hi
      simp only [List.length_append, List.length_cons, List.length_nil] at hi'
      have e' : i = L.procs.length := by omega
      subst e'
      simp
  have nend : ¬ endedI (toPP (newPr o)) := by
    rintro ⟨_, a⟩
    have a' : (newPr o).phase = 19 ∨ (newPr o).phase = 20 := a
    omega
  refine ⟨fun i hi => ?_, ⟨fun i hi he => ?_, fun i j hi hj hne hei hej => ?_⟩⟩
  · rcases get i hi with ⟨hi0, e⟩ | e
    · show MetQ (L.procs ++ [(0, newPr o)]) ((L.procs ++ [(0, newPr o)])[i]).2
      rw [e]
      have hq := x.met i hi0
      refine ⟨fun a b => ?_, hq.2⟩
      have hlt : (L.procs[i]).2.met.toNat < L.procs.length := by
        obtain ⟨v, n, hh⟩ := h.rel.here hi0 (by omega)
        obtain ⟨k, hk, hs⟩ := hh.slotk
        obtain ⟨_, hx⟩ := hh.mine a hk hs (hh.inner (by omega) (by omega))
        rcases hx with ⟨_, _, e⟩ | ⟨_, b, _, e, hb, _⟩
        · omega
        · omega
      rw [kindAt_app hlt]
      exact hq.1 a b
    · show MetQ (L.procs ++ [(0, newPr o)]) ((L.procs ++ [(0, newPr o)])[i]).2
      rw [e]
      exact ⟨fun a => by omega, fun _ => by omega⟩
  · rcases get i hi with ⟨hi0, e⟩ | e
    · show Iss L ((L.procs ++ [(0, newPr o)])[i]).2.val
      have he' : endedI (toPP ((L.procs ++ [(0, newPr o)])[i]).2) := he
      rw [e] at he' ⊢
      exact x.num.iss i hi0 he'
    · have he' : endedI (toPP ((L.procs ++ [(0, newPr o)])[i]).2) := he
      rw [e] at he'
      exact absurd he' nend
  · have hei' : endedI (toPP ((L.procs ++ [(0, newPr o)])[i]).2) := hei
    have hej' : endedI (toPP ((L.procs ++ [(0, newPr o)])[j]).2) := hej
    show ((L.procs ++ [(0, newPr o)])[i]).2.val ≠ ((L.procs ++ [(0, newPr o)])[j]).2.val
    rcases get i hi with ⟨hi0, e⟩ | e
    · rcases get j hj with ⟨hj0, e'⟩ | e'
      · rw [e] at hei' ⊢
        rw [e'] at hej' ⊢
        exact x.num.diff i j hi0 hj0 hne hei' hej'
      · rw [e'] at hej'
        exact absurd hej' nend
    · rw [e] at hei'
      exact absurd hei' nend

theorem YOk.new (c : Conf) : YOk (newLay c) := ⟨fun _ hi => absurd hi (Nat.not_lt_zero _), ⟨fun _ hi => absurd hi (Nat.not_lt_zero _), fun _ _ hi => absurd hi (Nat.not_lt_zero _)⟩⟩

end Go.Proofs.Ytjnmpejcegmkhab

namespace Go.Proofs.Ytjnmpejcegmkhab
open Go.RowKit

def doneQ (q : PP) : Prop := q.phase = 20

theorem SQ.own2 {c : Conf} {l : List PP} {j v : Nat} {q q' : PP} (h : SQ c l j v q q') (hna : q.phase ≠ 13 ∧ q.phase ≠ 14) :
    phi c (l.set j q') q' ≤ phi c l q ∧ (¬ (q.phase ≤ 2 ∧ shQ v l = true) → phi c (l.set j q') q' + 1 ≤ phi c l q) ∧ (q.phase ≤ 2 ∧ shQ v l = true → q'.phase ≤ 2 ∧ q'.node = (v : Int)) := by
  have hs := sumQ_set (holdQ c) l j h.hj q'
  rw [h.eq] at hs
  have hat := h.at'
  have hpm := h.pm
  have hd : dQ q ≤ c.depth.toNat := by
    unfold dQ
    rw [hat, Int.toNat_natCast]
    have := (Nat.log2_lt (show v ≠ 0 by have := h.v1; omega)).2 h.vD
    omega
  have hdv : dQ q = Nat.log2 v := by unfold dQ; rw [hat, Int.toNat_natCast]
  have hd' : q'.phase ≠ 20 → dQ q' ≤ c.depth.toNat := by
    intro h20
    obtain ⟨u, e, u1, u2⟩ := h.node h20
    unfold dQ
    rw [e, Int.toNat_natCast]
    have := (Nat.log2_lt (show u ≠ 0 by omega)).2 u2
    omega
  have hin : 3 ≤ q.phase → q.phase ≤ 11 → dQ q < c.depth.toNat := by
    intro a b
    have h1 := h.inn a b
    have h2 := (Nat.log2_lt (show 2 * v + 1 ≠ 0 by omega)).2 h1
    have h3 := (log2_kid ⟨v, h.v32⟩ h.v1).2
    simp only at h3
    omega
  have hk0 : q'.node = (v : Int) → dQ q' = dQ q := by
    intro e
    rw [hdv]
    unfold dQ
    rw [e, Int.toNat_natCast]
  have hk1 : q'.node / 2 = (v : Int) → dQ q' = dQ q + 1 := by
    intro e
    have h3 := log2_kid ⟨v, h.v32⟩ h.v1
    simp only at h3
    rw [hdv]
    unfold dQ
    have : q'.node.toNat = 2 * v ∨ q'.node.toNat = 2 * v + 1 := by omega
    rcases this with x | x
    · rw [x]; exact h3.1
    · rw [x]; exact h3.2
  have hku : q'.node = (v : Int) / 2 → (v : Int) / 2 ≠ 0 → dQ q = dQ q' + 1 := by
    intro e e0
    have h3 := log2_up ⟨v, h.v32⟩ h.v1 (by show v / 2 ≠ 0; omega)
    simp only at h3
    rw [hdv]
    unfold dQ
    have : q'.node.toNat = v / 2 := by omega
    rw [this]
    exact h3
  have hsh : q.phase ≤ 2 → q'.phase ≤ 2 → q'.node = (v : Int) → shQ q'.node (l.set j q') = shQ v l := by
    intro a b e
    rw [e]
    refine shQ_set l j h.hj q' ?_
    rw [h.eq]
    have e1 : inHold (v : Int) q' = false := by
      cases hh : inHold (v : Int) q'
      · rfl
      · have := (inHold_iff _ _).1 hh; omega
    have e2 : inHold (v : Int) q = false := by
      cases hh : inHold (v : Int) q
      · rfl
      · have := (inHold_iff _ _).1 hh; omega
    rw [e1, e2]
  have hst : ¬ (q.phase = 13 ∧ q'.phase = 13) ∧ ¬ (q.phase = 14 ∧ q'.phase = 14) := ⟨fun x => hna.1 x.1, fun x => hna.2 x.1⟩
  obtain ⟨w1, w2⟩ := work_own h.spin0 h.drain0 hpm (shQ v l) (shQ q'.node (l.set j q')) q.kind q.pat q'.pat (dQ q) (dQ q') h.ka h.kb hd hd' hin hk0 hk1 hku hsh h.look (fun x => (h.wait x).1) (fun x => (h.wait x).2) h.claim h.shut (fun x => (h.drain x).1) (fun x => (h.drain x).2) hst
  have e0 : phi c l q = work c.depth.toNat c.spin c.drain (shQ v l) q.kind q.phase q.pat (dQ q) + sumQ (holdQ c) l - holdQ c q := by unfold phi workQ; rw [hat]
  have e1 : phi c (l.set j q') q' = work c.depth.toNat c.spin c.drain (shQ q'.node (l.set j q')) q.kind q'.phase q'.pat (dQ q') + sumQ (holdQ c) (l.set j q') - holdQ c q' := by unfold phi workQ; rw [h.kind]
  rw [e0, e1]
  refine ⟨by omega, fun x => by have := w1 x; omega, fun x => ?_⟩
  obtain ⟨x1, x2⟩ := x
  have hpl := hpm.live
  by_cases e1 : q.phase = 1
  · have e2 := (h.look e1).2 x2
    exact ⟨by omega, hpm.back1 e1 e2⟩
  · have := hpm.low (by omega)
    exact ⟨this.2, this.1⟩

/-- In the midst of a round that began with l0; dn: who has had its turn. -/
structure RC (c : Conf) (l0 l : List PP) (dn : List Nat) : Prop where
  len : l.length = l0.length
  keep : ∀ i, (hi : i < l.length) → (h0 : i < l0.length) → doneQ l0[i] → doneQ l[i]
  r1 : ∀ i, (hi : i < l.length) → (h0 : i < l0.length) → doneQ l[i] ∨ phi c l l[i] ≤ phi c l0 l0[i]
  r2 : ∀ x, x ∈ dn → (hx : x < l.length) → 16 ≤ (l[x]).phase → (l[x]).phase ≤ 18 → ∀ i, (hi : i < l.length) → (h0 : i < l0.length) → i ≠ x → doneQ l[i] ∨ phi c l l[i] + 1 ≤ phi c l0 l0[i]
  r3 : ∀ i, i ∈ dn → (hi : i < l.length) → (h0 : i < l0.length) → doneQ l[i] ∨ phi c l l[i] + 1 ≤ phi c l0 l0[i] ∨ ((l[i]).phase ≤ 2 ∧ ∃ x, ∃ hx : x < l.length, x ∉ dn ∧ inHold (l[i]).node l[x] = true)

theorem RC.start (c : Conf) (l : List PP) : RC c l l [] :=
  ⟨rfl, fun _ _ _ h => h, fun _ _ _ => Or.inr (Int.le_refl _), fun x hx => by simp at hx, fun i hi => by simp at hi⟩

theorem RC.skip {c : Conf} {l0 l : List PP} {dn : List Nat} (h : RC c l0 l dn) (j : Nat) (hj : j < l.length) (h20 : (l[j]).phase = 20) : RC c l0 l (j :: dn) := by
  refine ⟨h.len, h.keep, h.r1, fun x hx hxl a b i hi h0 hne => ?_, fun i hi hil h0 => ?_⟩
  · rcases List.mem_cons.1 hx with e | e
    · subst e; omega
    · exact h.r2 x e hxl a b i hi h0 hne
  · rcases List.mem_cons.1 hi with e | e
    · subst e
      exact Or.inl h20
    · rcases h.r3 i e hil h0 with a | a | ⟨a, x, hx, b, d⟩
      · exact Or.inl a
      · exact Or.inr (Or.inl a)
      · refine Or.inr (Or.inr ⟨a, x, hx, fun hm => ?_, d⟩)
        rcases List.mem_cons.1 hm with e' | e'
        · subst e'
          have := (inHold_iff _ _).1 d
          omega
        · exact b e'

theorem RC.step {c : Conf} {l0 l : List PP} {dn : List Nat} (h : RC c l0 l dn) {j v : Nat} {q q' : PP} (hs : SQ c l j v q q') (hsf : q.phase ≠ 13 ∧ q.phase ≠ 14) : RC c l0 (l.set j q') (j :: dn) := by
  have hj := hs.hj
  have hq := hs.eq
  have hpm := hs.pm
  have hpl := hpm.live
  have hl := h.len
  have arr : doneQ q → doneQ q' := fun a => absurd a hpl.1
  have hat := hs.at'
  have get : ∀ i, (hi : i < l.length) → (hi' : i < (l.set j q').length) → i ≠ j → (l.set j q')[i] = l[i] := fun i hi hi' e => List.getElem_set_ne (Ne.symm e) _
  have self : ∀ hi' : j < (l.set j q').length, (l.set j q')[j] = q' := fun _ => List.getElem_set_self _
  have own := fun (_ : ¬ doneQ q) => hs.own2 hsf
  have r1j : ∀ h0 : j < l0.length, doneQ q ∨ phi c l q ≤ phi c l0 l0[j] := by
    intro h0
    have := h.r1 j hj h0
    rw [hq] at this
    exact this
  refine ⟨by simpa using hl, fun i hi' h0 ha => ?_, fun i hi' h0 => ?_, fun x hx hx' a b i hi' h0 hne => ?_, fun i him hi' h0 => ?_⟩
  · have hi : i < l.length := by simpa using hi'
    have hk := h.keep i hi h0 ha
    by_cases e : i = j
    · subst e
      rw [self]
      rw [hq] at hk
      exact arr hk
    · rw [get i hi hi' e]
      exact hk
  · have hi : i < l.length := by simpa using hi'
    by_cases e : i = j
    · subst e
      rw [self]
      by_cases na : doneQ q
      · exact Or.inl (arr na)
      · rcases r1j h0 with x | x
        · exact absurd x na
        · exact Or.inr (Int.le_trans (own na).1 x)
    · rw [get i hi hi' e]
      rcases h.r1 i hi h0 with x | x
      · exact Or.inl x
      · exact Or.inr (Int.le_trans (hs.other i hi e).1 x)
  · have hi : i < l.length := by simpa using hi'
    have hxl : x < l.length := by simpa using hx'
    by_cases exj : x = j
    · subst exj
      rw [self] at a b
      obtain ⟨p1, p2⟩ := hpm.into ⟨a, b⟩
      rw [get i hi hi' hne]
      rcases h.r1 i hi h0 with z | z
      · exact Or.inl z
      · have := (hs.other i hi hne).2 p1 p2
        exact Or.inr (by omega)
    · have hxd : x ∈ dn := by
        rcases List.mem_cons.1 hx with e | e
        · exact absurd e exj
        · exact e
      rw [get x hxl hx' exj] at a b
      by_cases e : i = j
      · subst e
        rw [self]
        by_cases na : doneQ q
        · exact Or.inl (arr na)
        · have := h.r2 x hxd hxl a b i hi h0 hne
          rw [hq] at this
          rcases this with z | z
          · exact absurd z na
          · have := (own na).1
            exact Or.inr (by omega)
      · rw [get i hi hi' e]
        rcases h.r2 x hxd hxl a b i hi h0 hne with z | z
        · exact Or.inl z
        · have := (hs.other i hi e).1
          exact Or.inr (by omega)
  · have hi : i < l.length := by simpa using hi'
    by_cases e : i = j
    · subst e
      rw [self]
      by_cases na : doneQ q
      · exact Or.inl (arr na)
      · obtain ⟨o1, o2, o3⟩ := own na
        rcases r1j h0 with z | z
        · exact absurd z na
        · by_cases bl : q.phase ≤ 2 ∧ shQ v l = true
          · obtain ⟨x, hx, ex⟩ := shQ_ex bl.2
            have hh := (inHold_iff _ _).1 ex
            have hxi : x ≠ i := by
              intro e
              subst e
              rw [hq] at hh
              omega
            by_cases hxd : x ∈ dn
            · have := h.r2 x hxd hx hh.2.1 hh.2.2 i hi h0 (Ne.symm hxi)
              rw [hq] at this
              rcases this with y | y
              · exact absurd y na
              · exact Or.inr (Or.inl (by omega))
            · obtain ⟨y1, y2⟩ := o3 bl
              refine Or.inr (Or.inr ⟨y1, x, by simpa using hx, fun hm => ?_, ?_⟩)
              · rcases List.mem_cons.1 hm with e' | e'
                · exact hxi e'
                · exact hxd e'
              · rw [y2, get x hx (by simpa using hx) hxi]
                exact ex
          · have := o2 bl
            exact Or.inr (Or.inl (by omega))
    · have hid : i ∈ dn := by
        rcases List.mem_cons.1 him with e' | e'
        · exact absurd e' e
        · exact e'
      rw [get i hi hi' e]
      rcases h.r3 i hid hi h0 with z | z | ⟨z, x, hx, hxd, ex⟩
      · exact Or.inl z
      · have := (hs.other i hi e).1
        exact Or.inr (Or.inl (by omega))
      · by_cases exj : x = j
        · subst exj
          have hh := (inHold_iff _ _).1 ex
          rw [hq] at hh
          rcases h.r1 i hi h0 with y | y
          · exact Or.inl y
          · have := (hs.other i hi e).2 (by omega) (by omega)
            exact Or.inr (Or.inl (by omega))
        · refine Or.inr (Or.inr ⟨z, x, by simpa using hx, fun hm => ?_, ?_⟩)
          · rcases List.mem_cons.1 hm with e' | e'
            · exact exj e'
            · exact hxd e'
          · rw [get x hx (by simpa using hx) exj]
            exact ex

theorem RC.round {c : Conf} {l0 l : List PP} {dn : List Nat} (h : RC c l0 l dn) (hall : ∀ i, (hi : i < l.length) → i ∈ dn ∨ (l[i]).phase = 20) (i : Nat) (hi : i < l.length) (h0 : i < l0.length) : doneQ l[i] ∨ phi c l l[i] + 1 ≤ phi c l0 l0[i] := by
  rcases hall i hi with hd | hd
  · rcases h.r3 i hd hi h0 with z | z | ⟨_, x, hx, hxd, ex⟩
    · exact Or.inl z
    · exact Or.inr z
    · exfalso
      have hh := (inHold_iff _ _).1 ex
      rcases hall x hx with y | y
      · exact hxd y
      · omega
  · exact Or.inl hd

end Go.Proofs.Ytjnmpejcegmkhab

namespace Go.Proofs.Ytjnmpejcegmkhab
open Go.RowKit

theorem phi_up2 {c : Conf} {L : Lay} {P : PLay} (h : CRel c L P) (pk : PatOk c L) {i : Nat} (hi : i < L.procs.length) : ((L.procs[i]).2.phase ≠ 20 → 1 ≤ phi c (toPPs L.procs) (toPP (L.procs[i]).2)) ∧ phi c (toPPs L.procs) (toPP (L.procs[i]).2) ≤ calmR c := by
  have hcf := h.rel.confs
  have hd0 := h.rel.drain0
  obtain ⟨a1, a2, a3⟩ := sum_hold hd0.1 L.procs pk
  have a3i := a3 i hi
  have hfull := h.rel.full
  obtain ⟨h1, h2, h3⟩ := hold_range c.drain (L.procs[i]).2.kind (L.procs[i]).2.phase (L.procs[i]).2.pat hd0.1 (pk i hi).2
  have e1 : holdQ c (toPP (L.procs[i]).2) = holdW c.drain (L.procs[i]).2.kind (L.procs[i]).2.phase (L.procs[i]).2.pat := rfl
  rw [e1] at a3i
  have hmul : (liveL L.procs : Int) * (c.drain + 6) ≤ c.procs * (c.drain + 6) := Int.mul_le_mul_of_nonneg_right hfull (by omega)
  have hcalm : calmR c = c.procs * (c.drain + 6) + 2 * c.procs + (c.drain + 8) + (c.depth + 1) * (c.spin + 12) := by
    unfold calmR
    have : (c.procs + 1) * (c.drain + 8) = c.procs * (c.drain + 6) + 2 * c.procs + (c.drain + 8) := by
      rw [Int.add_mul, Int.one_mul]
      have : c.drain + 8 = (c.drain + 6) + 2 := by omega
      rw [this, Int.mul_add]
      omega
    omega
  by_cases h20 : (L.procs[i]).2.phase = 20
  · have ew : workQ c (shQ (toPP (L.procs[i]).2).node (toPPs L.procs)) (toPP (L.procs[i]).2) = 0 := by
      unfold workQ
      show work _ _ _ _ _ (L.procs[i]).2.phase _ _ = 0
      rw [h20]
      simp [work]
    have hD0 : 0 ≤ (c.depth + 1) * (c.spin + 12) := Int.mul_nonneg (by omega) (by omega)
    refine ⟨fun na => absurd h20 na, ?_⟩
    unfold Go.Proofs.Ytjnmpejcegmkhab.phi
    rw [ew, e1, hcalm]
    omega
  · obtain ⟨v, n, hh⟩ := h.rel.here hi h20
    have hph := hh.q.phase
    have hdv : dQ (toPP (L.procs[i]).2) = Nat.log2 v := by
      unfold dQ
      show Nat.log2 (L.procs[i]).2.node.toNat = _
      rw [hh.at', Int.toNat_natCast]
    have hvD : v < 2 ^ (c.depth.toNat + 1) := by rw [← h.rel.len]; exact hh.vN
    have hd : dQ (toPP (L.procs[i]).2) ≤ c.depth.toNat := by
      rw [hdv]
      have := (Nat.log2_lt (show v ≠ 0 by have := hh.v1; omega)).2 hvD
      omega
    have hin : 3 ≤ (L.procs[i]).2.phase → (L.procs[i]).2.phase ≤ 11 → dQ (toPP (L.procs[i]).2) < c.depth.toNat := by
      intro a b
      have hf := hh.q.inner a b
      rw [hh.at', Int.toNat_natCast] at hf
      have hk := (h.rel.kids v hh.v1 hh.vN hf).1
      rw [h.rel.len] at hk
      have h2 := (Nat.log2_lt (show 2 * v + 1 ≠ 0 by omega)).2 hk
      have h3 := (log2_kid ⟨v, hh.v32⟩ hh.v1).2
      simp only at h3
      omega
    obtain ⟨w1, w2⟩ := work_range (D := c.depth.toNat) (by omega) (s := c.spin) (r := c.drain) (by omega) hd0.1 (shQ (toPP (L.procs[i]).2).node (toPPs L.procs)) (L.procs[i]).2.kind (L.procs[i]).2.phase (L.procs[i]).2.pat (dQ (toPP (L.procs[i]).2)) hd (pk i hi).1 (pk i hi).2 hin (by omega)
    have ew : workQ c (shQ (toPP (L.procs[i]).2).node (toPPs L.procs)) (toPP (L.procs[i]).2) = work c.depth.toNat c.spin c.drain (shQ (toPP (L.procs[i]).2).node (toPPs L.procs)) (L.procs[i]).2.kind (L.procs[i]).2.phase (L.procs[i]).2.pat (dQ (toPP (L.procs[i]).2)) := rfl
    have eD : ((c.depth.toNat : Int) + 1) * (c.spin + 12) = (c.depth + 1) * (c.spin + 12) := by rw [Int.toNat_of_nonneg (by omega)]
    rw [eD] at w2
    unfold Go.Proofs.Ytjnmpejcegmkhab.phi
    rw [ew, e1, hcalm]
    exact ⟨fun _ => by omega, by omega⟩

/-- What holds of a counter's tree. -/
structure ZOk (c : Conf) (L : Lay) : Prop where
  ck : c.kind = 0
  x : XOk c L
  y : YOk L
/-- In a counter nobody stands in Store or in Fetch. -/
theorem ZOk.still {c : Conf} {L : Lay} {P : PLay} (z : ZOk c L) (h : CRel c L P) {i : Nat} (hi : i < L.procs.length) (hl : (L.procs[i]).2.phase ≠ 20) : (toPP (L.procs[i]).2).phase ≠ 13 ∧ (toPP (L.procs[i]).2).phase ≠ 14 := by
  obtain ⟨v, q', hs, _⟩ := h.sq z.x.pat hi hl 0
  have hq := h.rel.qs i hi
  have hk := z.ck
  have e1 : (toPP (L.procs[i]).2).phase = (L.procs[i]).2.phase := rfl
  have e2 : (toPP (L.procs[i]).2).kind = (L.procs[i]).2.kind := rfl
  have k2 := hs.ka.chg
  rw [e1]
  rw [e1, e2] at k2
  refine ⟨fun e => ?_, fun e => ?_⟩
  · have := (hq.tick.2.2 e).1
    omega
  · rcases hq.kind with ⟨_, x⟩ | ⟨x, _⟩ | x | x
    · exact (z.y.met i hi).2 x e
    · omega
    · have := k2 (by omega); omega
    · have := k2 (by omega); omega

end Go.Proofs.Ytjnmpejcegmkhab
