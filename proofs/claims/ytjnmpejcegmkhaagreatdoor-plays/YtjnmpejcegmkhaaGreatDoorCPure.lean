/- The program's tree and the document's, in the midst of things: what holds between them, and plain facts about lists. In the midst of things both trees tell the same. One process moves: what is to be shown of it, so that the relation goes on. The moves of P6: Enter, Look, Back, Toggle, Leave. The moves of P6 and P7: Look, Toggle, and at the slots. The moves of P7, at the slots of an inner node. The moves of P7: Taken, Meet, Grow, Shrink. The moves of P8, at a leaf. No statement of the seat is proved here. -/
import Derived.Test.YtjnmpejcegmkhaaGreatDoorRefStA
import Derived.Test.YtjnmpejcegmkhaaGreatDoorPStA
import Derived.Test.YtjnmpejcegmkhaaGreatDoorCInv
namespace Go.Proofs.YtjnmpejcegmkhaaGreatDoor
open Go.RowKit

def toPP (p : Pr) : PP := ⟨p.kind, p.oval, p.onode, p.phase, p.node, p.val, p.wide, p.slot, p.mind, p.pat, p.ticket⟩

abbrev Prs := List (Nat × Pr)

/-- What a slot of an inner node has to do with who waits there. -/
def SlotRel (ps : Prs) (v k : Nat) (s : SL) : Prop :=
  (s.st = 0 ∧ ∀ i, (hi : i < ps.length) → waitP v k (ps[i]).2 = false) ∨
  ∃ j, ∃ hj : j < ps.length, s.wh = (j : Int) ∧ waitP v k (ps[j]).2 = true ∧ (∀ i, (hi : i < ps.length) → waitP v k (ps[i]).2 = true → i = j) ∧
    ((s.st = 1 ∧ (ps[j]).2.phase = 6 ∧ (ps[j]).2.met = -1) ∨ (s.st = 2 ∧ ∃ b : Nat, s.by' = (b : Int) ∧ (ps[j]).2.met = (b : Int) ∧ b < ps.length ∧ b ≠ j))

structure ItemsRel (c : Conf) (l : Hist) (its : List (Int × Int)) : Prop where
  len : c.kind = 1 → (its.length : Int) = putsH l
  emp : c.kind = 0 → its = []
  it : ∀ t : Nat, itemH l t = if (its.getD t (0, 0)).1 = 1 then some (its.getD t (0, 0)).2 else none
  tk : ∀ t : Nat, takenH l t = decide ((its.getD t (0, 0)).1 = 2)

structure NRel (c : Conf) (ps : Prs) (v : Nat) (l : Hist) (n : PN) : Prop where
  form : formH l = 1 ∨ formH l = 2 ∨ formH l = 3
  there : n.there = decide (formH l ≠ 3)
  inside : formH l ≠ 3 → n.inside = (insideL v ps : Int)
  inn : formH l = 1 → n.inner = true ∧ n.toggle = togH l ∧ n.width = widthH l ∧ 1 ≤ n.width ∧ n.width ≤ c.width ∧ ∀ k, k < 4 → SlotRel ps v k (n.slot k)
  leaf : formH l = 2 → n.inner = false ∧ n.puts = putsH l ∧ n.gets = (manyH 7 (-1) l : Int) ∧ ItemsRel c l n.items

structure QInv (c : Conf) (H : Nat → Hist) (N np i : Nat) (p : Pr) : Prop where
  phase : 0 ≤ p.phase ∧ p.phase ≤ 20
  kind : (c.kind = 0 ∧ p.kind = 0) ∨ (c.kind = 1 ∧ (p.kind = 1 ∨ p.kind = 2)) ∨ p.kind = 3 ∨ p.kind = 4
  done : p.phase = 20 → p.node = 0
  live : p.phase ≠ 20 → ∃ u : Nat, p.node = (u : Int) ∧ 1 ≤ u ∧ u < N ∧ formH (H u) ≠ 3
  inner : 3 ≤ p.phase → p.phase ≤ 11 → formH (H p.node.toNat) = 1
  leaf : 12 ≤ p.phase → p.phase ≤ 14 → formH (H p.node.toNat) = 2
  slot : 0 ≤ p.slot ∧ p.slot < 4
  wide : 0 ≤ p.wide ∧ p.wide ≤ c.width ∧ (4 ≤ p.phase → p.phase ≤ 10 → 1 ≤ p.wide)
  mind : p.phase = 8 → ∃ j : Nat, p.mind = (j : Int) ∧ j < np ∧ j ≠ i
  pat : p.pat ≤ 1000
  tick : 0 ≤ p.ticket ∧ p.ticket ≤ 100000 ∧ (p.phase = 13 → c.kind = 1 ∧ p.ticket < putsH (H p.node.toNat))

def potP (p : Pr) : Nat := if p.phase = 19 ∨ p.phase = 20 then 20 else if p.phase = 11 ∨ p.phase = 13 ∨ p.phase = 14 then 3 * Nat.log2 p.node.toNat + 1 else 3 * Nat.log2 p.node.toNat
def potL : Prs → Nat
  | [] => 0
  | x :: r => potP x.2 + potL r
def totL : List (Value × Hist) → Nat
  | [] => 0
  | x :: r => x.2.length + totL r

structure WRel (c : Conf) (L : Lay) (P : PLay) : Prop where
  may : mayC c = true
  cL : L.c = c
  cP : P.c = c
  len : L.past.length = 2 ^ (c.depth.toNat + 1)
  hist0 : formH (L.hist 0) = 3
  plen : P.nodes.length = 32
  procs : P.procs = L.procs.map fun x => toPP x.2
  np : L.procs.length ≤ 256
  full : (liveL L.procs : Int) ≤ c.procs
  nodes : ∀ v, 1 ≤ v → v < L.past.length → NRel c L.procs v (L.hist v) (P.nodes.getD v zeroPN)
  past : ∀ v, L.past.length ≤ v → v < 32 → (P.nodes.getD v zeroPN).there = false
  qs : ∀ i, (hi : i < L.procs.length) → QInv c L.hist L.past.length L.procs.length i (L.procs[i]).2
  kids : ∀ v, 1 ≤ v → v < L.past.length → formH (L.hist v) = 1 → 2 * v + 1 < L.past.length ∧ formH (L.hist (2 * v)) ≠ 3 ∧ formH (L.hist (2 * v + 1)) ≠ 3
  par : ∀ v, 2 ≤ v → v < L.past.length → formH (L.hist v) ≠ 3 → formH (L.hist (v / 2)) ≠ 3
  fn : ∀ v, v < L.past.length → 0 ≤ (fromH (L.hist v)).1.n ∧ (fromH (L.hist v)).1.n ≤ 1000
  pot : totL L.past ≤ 32 + potL L.procs
  tk0 : ∀ i, (hi : i < L.procs.length) → (L.procs[i]).2.phase = 13 → takenH (L.hist (L.procs[i]).2.node.toNat) (L.procs[i]).2.ticket = false ∧ itemH (L.hist (L.procs[i]).2.node.toNat) (L.procs[i]).2.ticket = none
  uniq : ∀ i j, (hi : i < L.procs.length) → (hj : j < L.procs.length) → (L.procs[i]).2.phase = 13 → (L.procs[j]).2.phase = 13 → (L.procs[i]).2.node = (L.procs[j]).2.node → (L.procs[i]).2.ticket = (L.procs[j]).2.ticket → i = j
  isz : ∀ v, 1 ≤ v → v < 32 → (P.nodes.getD v zeroPN).items.length ≤ 10000
  root : formH (L.hist 1) ≠ 3

/- Plain facts. -/
theorem insideL_set (u : Nat) : ∀ (ps : Prs) (i : Nat) (hi : i < ps.length) (x : Nat × Pr), insideL u (ps.set i x) + (if holdsP u (ps[i]).2 then 1 else 0) = insideL u ps + (if holdsP u x.2 then 1 else 0)
  | [], i, hi, _ => by simp at hi
  | y :: r, 0, _, x => by simp only [List.set_cons_zero, insideL, List.getElem_cons_zero]; omega
  | y :: r, i + 1, hi, x => by
    have := insideL_set u r i (by simpa using hi) x
    simp only [List.set_cons_succ, insideL, List.getElem_cons_succ]
    omega
theorem potL_set : ∀ (ps : Prs) (i : Nat) (hi : i < ps.length) (x : Nat × Pr), potL (ps.set i x) + potP (ps[i]).2 = potL ps + potP x.2
  | [], i, hi, _ => by simp at hi
  | y :: r, 0, _, x => by simp only [List.set_cons_zero, potL, List.getElem_cons_zero]; omega
  | y :: r, i + 1, hi, x => by
    have := potL_set r i (by simpa using hi) x
    simp only [List.set_cons_succ, potL, List.getElem_cons_succ]
    omega
theorem totL_set : ∀ (l : List (Value × Hist)) (v : Nat) (hv : v < l.length) (x : Value × Hist), totL (l.set v x) + (l[v]).2.length = totL l + x.2.length
  | [], v, hv, _ => by simp at hv
  | y :: r, 0, _, x => by simp only [List.set_cons_zero, totL, List.getElem_cons_zero]; omega
  | y :: r, v + 1, hv, x => by
    have := totL_set r v (by simpa using hv) x
    simp only [List.set_cons_succ, totL, List.getElem_cons_succ]
    omega
theorem totL_ge : ∀ (l : List (Value × Hist)) (v : Nat) (hv : v < l.length), (l[v]).2.length ≤ totL l
  | [], v, hv => by simp at hv
  | y :: r, 0, _ => by simp only [totL, List.getElem_cons_zero]; omega
  | y :: r, v + 1, hv => by
    have := totL_ge r v (by simpa using hv)
    simp only [totL, List.getElem_cons_succ]
    omega
theorem liveL_set : ∀ (ps : Prs) (i : Nat) (hi : i < ps.length) (x : Nat × Pr), liveL (ps.set i x) + (if (ps[i]).2.phase = 20 then 0 else 1) = liveL ps + (if x.2.phase = 20 then 0 else 1)
  | [], i, hi, _ => by simp at hi
  | y :: r, 0, _, x => by simp only [List.set_cons_zero, liveL, List.getElem_cons_zero]; omega
  | y :: r, i + 1, hi, x => by
    have := liveL_set r i (by simpa using hi) x
    simp only [List.set_cons_succ, liveL, List.getElem_cons_succ]
    omega
theorem manyH_le (what n : Int) : ∀ l : Hist, manyH what n l ≤ l.length
  | [] => by simp [manyH]
  | e :: r => by
    have := manyH_le what n r
    simp only [manyH, List.length_cons]
    split
    · split <;> omega
    · omega
theorem potP_le (p : Pr) (h : p.node.toNat < 64) : potP p ≤ 20 := by
  have h5 := log2_le5 _ h
  unfold potP
  split
  · omega
  · split <;> omega

theorem waitsL_none (v k : Int) : ∀ (ps : Prs) (o : Nat), (∀ i, (hi : i < ps.length) → waitP v k (ps[i]).2 = false) → waitsL v k ps o = -1
  | [], _, _ => rfl
  | y :: r, o, h => by
    have h0 := h 0 (by simp)
    simp only [List.getElem_cons_zero] at h0
    simp only [waitsL, h0, Bool.false_eq_true, if_false]
    exact waitsL_none v k r (o + 1) (fun i hi => by have := h (i + 1) (by simpa using hi); simpa using this)
theorem waitsL_some (v k : Int) : ∀ (ps : Prs) (o j : Nat) (hj : j < ps.length), waitP v k (ps[j]).2 = true → (∀ i, (hi : i < ps.length) → waitP v k (ps[i]).2 = true → i = j) → waitsL v k ps o = ((o + j : Nat) : Int)
  | [], _, j, hj, _, _ => by simp at hj
  | y :: r, o, j, hj, h1, h2 => by
    cases j with
    | zero =>
      simp only [List.getElem_cons_zero] at h1
      simp [waitsL, h1]
    | succ j =>
      have h0 : waitP v k y.2 = false := by
        cases hw : waitP v k y.2 with
        | false => rfl
        | true =>
          have := h2 0 (by simp) (by simpa using hw)
          omega
      simp only [waitsL, h0, Bool.false_eq_true, if_false]
      rw [waitsL_some v k r (o + 1) j (by simpa using hj) (by simpa using h1) (fun i hi hw => by have := h2 (i + 1) (by simpa using hi) (by simpa using hw); omega)]
      congr 1
      omega

theorem SlotRel.waits {ps : Prs} {v k : Nat} {s : SL} (h : SlotRel ps v k s) : (s.st = 0 ∧ waitsL v k ps 0 = -1) ∨ ((s.st = 1 ∨ s.st = 2) ∧ waitsL v k ps 0 = s.wh) := by
  rcases h with ⟨h0, h1⟩ | ⟨j, hj, h1, h2, h3, h4⟩
  · exact Or.inl ⟨h0, waitsL_none _ _ _ _ h1⟩
  · refine Or.inr ⟨?_, ?_⟩
    · rcases h4 with h4 | h4
      · exact Or.inl h4.1
      · exact Or.inr h4.1
    · rw [waitsL_some _ _ _ _ j hj h2 h3, h1]; simp

theorem SlotRel.keep {ps : Prs} {v k : Nat} {s : SL} (h : SlotRel ps v k s) {i : Nat} (hi : i < ps.length) (x : Nat × Pr) (h1 : waitP v k (ps[i]).2 = false) (h2 : waitP v k x.2 = false) : SlotRel (ps.set i x) v k s := by
  have key : ∀ a, (ha : a < ps.length) → (ha' : a < (ps.set i x).length) → waitP v k ((ps.set i x)[a]).2 = waitP v k (ps[a]).2 := by
    intro a ha ha'
    by_cases e : a = i
    · subst e; simp only [List.getElem_set_self]; rw [h1, h2]
    · simp only [List.getElem_set_ne (Ne.symm e)]
  rcases h with ⟨h0, h3⟩ | ⟨j, hj, a1, a2, a3, a4⟩
  · exact Or.inl ⟨h0, fun a ha' => by have ha : a < ps.length := by simpa using ha'
                                      rw [key a ha ha']; exact h3 a ha⟩
  · have hji : j ≠ i := by intro e; subst e; rw [h1] at a2; simp at a2
    refine Or.inr ⟨j, by simpa using hj, a1, by rw [key j hj (by simpa using hj)]; exact a2, fun a ha' hw => ?_, ?_⟩
    · have ha : a < ps.length := by simpa using ha'
      rw [key a ha ha'] at hw
      exact a3 a ha hw
    · simp only [List.getElem_set_ne (Ne.symm hji), List.length_set]
      exact a4

theorem hist_hap (L : Lay) (v u : Nat) (x : Value) (ev : Ev) (iv : Value) (hv : v < L.past.length) : (L.hap v x ev iv).hist u = if u = v then (ev, iv) :: L.hist v else L.hist u := by
  unfold Lay.hist
  by_cases e : u = v
  · subst e
    rw [if_pos rfl]
    simp [Lay.hist, List.getD_eq_getElem?_getD, hv]
  · rw [if_neg e]
    simp [List.getD_eq_getElem?_getD, List.getElem?_set_ne (Ne.symm e)]

/-- Who is inside of u and stands at a: at a itself, or he is inside of u and stands at a/2. -/
theorem climb_step : ∀ a : Fin 64, ∀ u : Fin 64, 1 ≤ a.1 → 1 ≤ u.1 → decide (climb 6 a.1 u.1 = u.1) = (decide (u.1 = a.1) || decide (climb 6 (a.1 / 2) u.1 = u.1)) ∧ (u.1 = a.1 → climb 6 (a.1 / 2) u.1 ≠ u.1) := by decide +kernel

theorem items_to (its : List (Int × Int)) : ∀ k, k ≤ its.length → ((List.range k).filterMap fun t : Nat => if (its.getD t (0, 0)).1 = 1 then some (its.getD t (0, 0)).2 else none) = pvals (its.take k)
  | 0, _ => by simp [pvals]
  | k + 1, hk => by
    have hlt : k < its.length := by omega
    have hg : its.getD k (0, 0) = its[k] := by simp [List.getD_eq_getElem?_getD, List.getElem?_eq_getElem hlt]
    rw [List.range_succ, List.filterMap_append, items_to its k (by omega), take_succ_get its k hlt, pvals_snoc]
    congr 1
    simp only [List.filterMap_cons, List.filterMap_nil, hg]
    by_cases h : (its[k]).1 = 1 <;> simp [h]

theorem ItemsRel.vals {c : Conf} {l : Hist} {its : List (Int × Int)} (h : ItemsRel c l its) (hc : c.kind = 0 ∨ c.kind = 1) : itemsH l = pvals its := by
  unfold itemsH itemsTo
  have e : (List.range (putsH l).toNat).filterMap (fun j : Nat => itemH l (j : Int)) = (List.range (putsH l).toNat).filterMap (fun t : Nat => if (its.getD t (0, 0)).1 = 1 then some (its.getD t (0, 0)).2 else none) :=
    filterMap_range_congr _ _ _ fun t _ => h.it t
  rw [e]
  rcases hc with hc | hc
  · have := h.emp hc
    subst this
    have : ∀ n, (List.range n).filterMap (fun t : Nat => if (([] : List (Int × Int)).getD t (0, 0)).1 = 1 then some (([] : List (Int × Int)).getD t (0, 0)).2 else none) = [] := by
      intro n
      rw [List.filterMap_eq_nil_iff]
      intro t _
      simp
    rw [this]
    rfl
  · have hl := h.len hc
    have : (putsH l).toNat = its.length := by omega
    rw [this, items_to its its.length (Nat.le_refl _), List.take_length]

theorem NRel.tells {c : Conf} {L : Lay} {v : Nat} {n : PN} (h : NRel c L.procs v (L.hist v) n) (hc : c.kind = 0 ∨ c.kind = 1) (hw : c.width ≤ 4) (hL : L.c = c) (hs : n.shut = shutL v L.procs) (h3 : formH (L.hist v) ≠ 3) : pnode c v n = rnode L v := by
  rcases h.form with h1 | h2 | h2
  · obtain ⟨a1, a2, a3, a4, a5, a6⟩ := h.inn h1
    unfold pnode rnode
    rw [if_pos a1, if_pos h1, hs, h.inside h3, a2, a3, hL]
    have e : whoTo n.st n.wh c.width.toNat = waitTo v L.procs c.width.toNat := by
      unfold whoTo waitTo
      refine List.map_congr_left fun k hk => ?_
      have hk4 : k < 4 := by have := List.mem_range.1 hk; omega
      have := (a6 k hk4).waits
      unfold whoAt PN.st PN.wh
      rcases this with ⟨s0, s1⟩ | ⟨s0, s1⟩
      · rw [if_pos s0, s1]
      · rw [if_neg (by omega), s1]
    rw [e]
    rfl
  · obtain ⟨a1, a2, a3, a4⟩ := h.leaf h2
    unfold pnode rnode
    rw [if_neg (by rw [a1]; simp), if_neg (by omega), hs, h.inside h3, a2, a3, a4.vals hc]
  · exact absurd h2 h3

/-- The gates: shut just while a Fold or an Unfold stands there behind Shut. -/
structure SInv (L : Lay) (P : PLay) : Prop where
  shut : ∀ v, 1 ≤ v → v < L.past.length → formH (L.hist v) ≠ 3 → (P.nodes.getD v zeroPN).shut = shutL v L.procs

theorem WRel.confs {c : Conf} {L : Lay} {P : PLay} (h : WRel c L P) : (c.kind = 0 ∨ c.kind = 1) ∧ 0 ≤ c.depth ∧ c.depth ≤ 4 ∧ 1 ≤ c.slots ∧ c.slots ≤ 4 ∧ 1 ≤ c.width ∧ c.width ≤ 4 ∧ 0 ≤ c.spin ∧ c.spin ≤ 8 ∧ 1 ≤ c.procs ∧ c.procs ≤ 16 := by
  have := h.may
  simp [mayC] at this
  omega

theorem WRel.lenle {c : Conf} {L : Lay} {P : PLay} (h : WRel c L P) : 2 ≤ L.past.length ∧ L.past.length ≤ 32 := by
  have hc := h.confs
  rw [h.len]
  have : 2 ^ (c.depth.toNat + 1) ≤ 2 ^ 5 := Nat.pow_le_pow_right (by omega) (by omega)
  have h2 : 2 ^ 1 ≤ 2 ^ (c.depth.toNat + 1) := Nat.pow_le_pow_right (by omega) (by omega)
  omega

theorem pnodes_w {c : Conf} {L : Lay} {P : PLay} (h : WRel c L P) (sh : SInv L P) : pnodes P = rnodes L := by
  have hc := h.confs
  have hl := h.lenle
  unfold pnodes pnodesTo rnodes rnodesTo
  rw [filterMap_range_more _ L.past.length 32 hl.2 (fun v h1 h2 => by
    have := h.past v h1 h2
    rw [if_pos (Or.inr this)])]
  refine filterMap_range_congr _ _ _ fun v hv => ?_
  by_cases h0 : v = 0
  · simp [h0]
  · have hn := h.nodes v (by omega) hv
    have ht := hn.there
    by_cases h3 : formH (L.hist v) = 3
    · rw [if_pos (Or.inr h3), if_pos (Or.inr (by rw [ht]; simp [h3]))]
    · rw [if_neg (by rw [ht]; simp [h0, h3]), if_neg (by omega), h.cP, hn.tells hc.1 (by omega) h.cL (sh.shut v (by omega) hv h3) h3]

theorem procV_w {c : Conf} {L : Lay} {P : PLay} (h : WRel c L P) (n : Int) : procV L n = pprocV P n := by
  unfold procV pprocV
  have hl : P.procs.length = L.procs.length := by rw [h.procs, List.length_map]
  rw [hl]
  by_cases hn : 0 ≤ n ∧ n < L.procs.length
  · rw [if_pos hn, if_pos hn]
    have hi : n.toNat < L.procs.length := by omega
    have hj : n.toNat < P.procs.length := by omega
    have e : P.procs[n.toNat] = toPP (L.procs[n.toNat]).2 := by simp [h.procs]
    simp only [List.getD_eq_getElem?_getD, List.getElem?_eq_getElem hi, List.getElem?_eq_getElem hj, Option.getD_some]
    rw [e]
    rfl
  · rw [if_neg hn, if_neg hn]

theorem WRel.node64 {c : Conf} {L : Lay} {P : PLay} (h : WRel c L P) (i : Nat) (hi : i < L.procs.length) : NodeOk (L.procs[i]).2 := by
  have q := h.qs i hi
  have hl := h.lenle
  by_cases h20 : (L.procs[i]).2.phase = 20
  · have := q.done h20
    exact ⟨by rw [this]; rfl, by rw [this]; decide⟩
  · obtain ⟨u, e, _, hu, _⟩ := q.live h20
    exact ⟨by rw [e]; simp, by rw [e]; simp; omega⟩

theorem potL_le : ∀ ps : Prs, (∀ i, (hi : i < ps.length) → (ps[i]).2.node.toNat < 64) → potL ps ≤ 20 * ps.length
  | [], _ => by simp [potL]
  | y :: r, h => by
    have h0 := potP_le y.2 (by have := h 0 (by simp); simpa using this)
    have := potL_le r fun i hi => by have := h (i + 1) (by simpa using hi); simpa using this
    simp only [potL, List.length_cons]
    omega

theorem WRel.hlen {c : Conf} {L : Lay} {P : PLay} (h : WRel c L P) (v : Nat) (hv : v < L.past.length) : (L.hist v).length ≤ 6000 := by
  have h1 := totL_ge L.past v hv
  have h2 := h.pot
  have h3 := potL_le L.procs fun i hi => (h.node64 i hi).2
  have h4 := h.np
  have e : L.hist v = (L.past[v]).2 := by simp [Lay.hist, hv]
  rw [e]
  omega

theorem WRel.agree {c : Conf} {w : World} {B : Nat} {L : Lay} {P : PLay} (h : WRel c L P) (sh : SInv L P) (hr : PRep w B P) : Agree w (.pointer (some ⟨P.tb, 0, none⟩)) L where
  nodes := fun W hW => by
    have hc := h.confs
    rw [← pnodes_w h sh]
    refine pnodes_c (hr.below hW) (by rw [h.cP]; omega) (by rw [h.cP]; omega) ?_
    intro v h1 hv
    have := h.isz v h1 (by have := hr.len; omega)
    rw [List.getD_eq_getElem?_getD, List.getElem?_eq_getElem hv] at this
    simp only [Option.getD_some] at this
    omega
  proc := fun W hW p => by
    rw [procV_w h]
    exact pproc_c (hr.below hW) p

theorem NRel.other {c : Conf} {ps : Prs} {u : Nat} {l : Hist} {n : PN} (h : NRel c ps u l n) {i : Nat} (hi : i < ps.length) (x : Nat × Pr) (hin : holdsP u x.2 = holdsP u (ps[i]).2) (hw : ∀ k : Nat, waitP u k (ps[i]).2 = false ∧ waitP u k x.2 = false) : NRel c (ps.set i x) u l n := by
  have hins : insideL u (ps.set i x) = insideL u ps := by
    have := insideL_set u ps i hi x
    rw [hin] at this
    omega
  refine ⟨h.form, h.there, fun h3 => by rw [hins]; exact h.inside h3, fun h1 => ?_, h.leaf⟩
  obtain ⟨a1, a2, a3, a4, a5, a6⟩ := h.inn h1
  exact ⟨a1, a2, a3, a4, a5, fun k hk => (a6 k hk).keep hi x (hw k).1 (hw k).2⟩

theorem QInv.hist {c : Conf} {H H' : Nat → Hist} {N np i : Nat} {p : Pr} (h : QInv c H N np i p) (hf : ∀ u, formH (H' u) = formH (H u)) (hp : ∀ u, putsH (H u) ≤ putsH (H' u)) : QInv c H' N np i p :=
  ⟨h.phase, h.kind, h.done, fun h20 => by obtain ⟨u, a, b, d, e⟩ := h.live h20; exact ⟨u, a, b, d, by rw [hf]; exact e⟩, fun a b => by rw [hf]; exact h.inner a b, fun a b => by rw [hf]; exact h.leaf a b, h.slot, h.wide, h.mind, h.pat, h.tick.1, h.tick.2.1, fun a => ⟨(h.tick.2.2 a).1, Int.lt_of_lt_of_le (h.tick.2.2 a).2 (hp _)⟩⟩

structure Moved (c : Conf) (L : Lay) (P : PLay) (i v : Nat) (p' : Pr) (n' : PN) (l' : Hist) (L' : Lay) (P' : PLay) : Prop where
  Lc : L'.c = L.c
  Lp : ∃ pb, L'.procs = L.procs.set i (pb, p')
  Ll : L'.past.length = L.past.length
  Lh : ∀ u, L'.hist u = if u = v then l' else L.hist u
  Pc : P'.c = P.c
  Pn : P'.nodes = P.nodes.set v n'
  Pp : P'.procs = P.procs.set i (toPP p')

structure MoveOk (c : Conf) (L : Lay) (P : PLay) (i v : Nat) (p p' : Pr) (n' : PN) (l' : Hist) (L' : Lay) : Prop where
  v1 : 1 ≤ v
  vN : v < L.past.length
  form : formH l' = formH (L.hist v)
  fn : (fromH l').1.n = (fromH (L.hist v)).1.n
  puts : putsH (L.hist v) ≤ putsH l'
  pot : totL L'.past + potP p ≤ totL L.past + potP p'
  at' : p.node = (v : Int)
  live : p.phase ≠ 20
  inside : ∀ u, 1 ≤ u → u < L.past.length → u ≠ v → holdsP u p' = holdsP u p
  away : ∀ u k : Nat, u ≠ v → waitP u k p' = false
  node : NRel c L'.procs v l' n'
  q : QInv c L'.hist L.past.length L.procs.length i p'
  its : n'.items.length ≤ 10000
  oth : ∀ j, (hj : j < L.procs.length) → j ≠ i → (L.procs[j]).2.phase = 13 → (L.procs[j]).2.node = (v : Int) → takenH (L.hist v) (L.procs[j]).2.ticket = false ∧ itemH (L.hist v) (L.procs[j]).2.ticket = none → takenH l' (L.procs[j]).2.ticket = false ∧ itemH l' (L.procs[j]).2.ticket = none
  own : p'.phase = 13 → (takenH (L'.hist p'.node.toNat) p'.ticket = false ∧ itemH (L'.hist p'.node.toNat) p'.ticket = none) ∧ ∀ j, (hj : j < L.procs.length) → j ≠ i → (L.procs[j]).2.phase = 13 → (L.procs[j]).2.node = p'.node → (L.procs[j]).2.ticket ≠ p'.ticket

theorem WRel.move {c : Conf} {L : Lay} {P : PLay} (h : WRel c L P) {i v : Nat} (hi : i < L.procs.length) {p' : Pr} {n' : PN} {l' : Hist} {L' : Lay} {P' : PLay} (hm : Moved c L P i v p' n' l' L' P') (ho : MoveOk c L P i v (L.procs[i]).2 p' n' l' L') : WRel c L' P' := by
  obtain ⟨pb, hLp⟩ := hm.Lp
  have hlp : L'.procs.length = L.procs.length := by rw [hLp, List.length_set]
  have hff : ∀ u, formH (L'.hist u) = formH (L.hist u) := by
    intro u
    rw [hm.Lh]
    by_cases e : u = v
    · subst e; rw [if_pos rfl]; exact ho.form
    · rw [if_neg e]
  have hpp : ∀ u, putsH (L.hist u) ≤ putsH (L'.hist u) := by
    intro u
    rw [hm.Lh]
    by_cases e : u = v
    · subst e; rw [if_pos rfl]; exact ho.puts
    · rw [if_neg e]; omega
  have hv32 : v < 32 := by have := h.lenle; have := ho.vN; omega
  have hgn : ∀ u, P'.nodes.getD u zeroPN = if u = v then n' else P.nodes.getD u zeroPN := by
    intro u
    rw [hm.Pn]
    by_cases e : u = v
    · subst e
      rw [if_pos rfl]
      simp [List.getD_eq_getElem?_getD, h.plen, hv32]
    · rw [if_neg e]
      simp [List.getD_eq_getElem?_getD, List.getElem?_set_ne (Ne.symm e)]
  have hwait : ∀ u k : Nat, u ≠ v → waitP u k (L.procs[i]).2 = false := by
    intro u k hne
    have : ¬ (L.procs[i]).2.node = (u : Int) := by rw [ho.at']; omega
    simp [waitP, this]
  have hget : ∀ j, (hj : j < L.procs.length) → (hj' : j < L'.procs.length) → j ≠ i → L'.procs[j] = L.procs[j] := by
    intro j hj hj' hne
    simp only [hLp, List.getElem_set_ne (Ne.symm hne)]
  have hgi : ∀ hi' : i < L'.procs.length, L'.procs[i] = (pb, p') := by
    intro hi'
    simp only [hLp, List.getElem_set_self]
  refine ⟨h.may, hm.Lc.trans h.cL, hm.Pc.trans h.cP, by rw [hm.Ll]; exact h.len, by rw [hff]; exact h.hist0, by rw [hm.Pn, List.length_set]; exact h.plen, ?_, by rw [hlp]; exact h.np, ?_, ?_, ?_, ?_, ?_, ?_, ?_, ?_, ?_, ?_, ?_, by rw [hff]; exact h.root⟩
  · rw [hm.Pp, h.procs, hLp, List.map_set]
  · have := liveL_set L.procs i hi (pb, p')
    rw [if_neg ho.live] at this
    rw [hLp]
    have hf := h.full
    simp only at this
    split at this <;> omega
  · intro u h1 hu
    rw [hm.Ll] at hu
    rw [hgn, hm.Lh]
    by_cases e : u = v
    · subst e; rw [if_pos rfl, if_pos rfl]; exact ho.node
    · rw [if_neg e, if_neg e, hLp]
      exact (h.nodes u h1 hu).other hi (pb, p') (ho.inside u h1 hu e) (fun k => ⟨hwait u k e, ho.away u k e⟩)
  · intro u h1 h2
    rw [hm.Ll] at h1
    have := ho.vN
    rw [hgn, if_neg (by omega)]
    exact h.past u h1 h2
  · intro j hj'
    have hj : j < L.procs.length := by omega
    rw [hm.Ll, hlp]
    by_cases e : j = i
    · subst e
      rw [hgi hj']
      exact ho.q
    · rw [hget j hj hj' e]
      exact (h.qs j hj).hist hff hpp
  · intro u h1 hu h2
    rw [hm.Ll] at hu ⊢
    rw [hff] at h2
    rw [hff, hff]
    exact h.kids u h1 hu h2
  · intro u h1 hu h2
    rw [hm.Ll] at hu
    rw [hff] at h2 ⊢
    exact h.par u h1 hu h2
  · intro u hu
    rw [hm.Ll] at hu
    rw [hm.Lh]
    by_cases e : u = v
    · subst e; rw [if_pos rfl, ho.fn]; exact h.fn u hu
    · rw [if_neg e]; exact h.fn u hu
  · have h1 := potL_set L.procs i hi (pb, p')
    have h2 := h.pot
    have h3 := ho.pot
    rw [hLp]
    simp only at h1
    omega
  · intro j hj' h13
    have hj : j < L.procs.length := by omega
    by_cases e : j = i
    · subst e
      rw [hgi hj'] at h13 ⊢
      exact (ho.own h13).1
    · rw [hget j hj hj' e] at h13 ⊢
      have h0 := h.tk0 j hj h13
      rw [hm.Lh]
      by_cases ev : (L.procs[j]).2.node.toNat = v
      · rw [if_pos ev]
        rw [ev] at h0
        obtain ⟨u, e1, _⟩ := (h.qs j hj).live (by omega)
        exact ho.oth j hj e h13 (by rw [e1] at ev ⊢; simp at ev; rw [ev]) h0
      · rw [if_neg ev]
        exact h0
  · intro a b ha' hb' h1 h2 h3 h4
    have ha : a < L.procs.length := by omega
    have hb : b < L.procs.length := by omega
    by_cases ea : a = i
    · by_cases eb : b = i
      · omega
      · subst ea
        rw [hgi ha'] at h1 h3 h4
        rw [hget b hb hb' eb] at h2 h3 h4
        exact absurd h4.symm ((ho.own h1).2 b hb eb h2 h3.symm)
    · by_cases eb : b = i
      · subst eb
        rw [hgi hb'] at h2 h3 h4
        rw [hget a ha ha' ea] at h1 h3 h4
        exact absurd h4 ((ho.own h2).2 a ha ea h1 h3)
      · rw [hget a ha ha' ea] at h1 h3 h4
        rw [hget b hb hb' eb] at h2 h3 h4
        exact h.uniq a b ha hb h1 h2 h3 h4
  · intro u h1 hu
    rw [hgn]
    by_cases e : u = v
    · rw [if_pos e]; exact ho.its
    · rw [if_neg e]; exact h.isz u h1 hu

theorem moved_plain (c : Conf) (L : Lay) (P : PLay) (i v : Nat) (p' : Pr) (n' : PN) : Moved c L P i v p' n' (L.hist v) (L.setP i p') (P.foc v n' i (toPP p')) :=
  ⟨rfl, ⟨_, rfl⟩, rfl, fun u => by by_cases e : u = v
                                   · subst e; rw [if_pos rfl]; rfl
                                   · rw [if_neg e]; rfl, rfl, rfl, rfl⟩

theorem moved_hap (c : Conf) (L : Lay) (P : PLay) (i v : Nat) (hv : v < L.past.length) (x : Value) (ev : Ev) (iv : Value) (p' : Pr) (n' : PN) : Moved c L P i v p' n' ((ev, iv) :: L.hist v) ((L.hap v x ev iv).setP i p') (P.foc v n' i (toPP p')) :=
  ⟨rfl, ⟨_, rfl⟩, by simp, fun u => hist_hap L v u x ev iv hv, rfl, rfl, rfl⟩

theorem totL_hap (L : Lay) (i v : Nat) (hv : v < L.past.length) (x : Value) (ev : Ev) (iv : Value) (p' : Pr) : totL ((L.hap v x ev iv).setP i p').past = totL L.past + 1 := by
  have := totL_set L.past v hv (x, (ev, iv) :: L.hist v)
  have e : L.hist v = (L.past[v]).2 := by simp [Lay.hist, hv]
  show totL (L.past.set v (x, (ev, iv) :: L.hist v)) = _
  rw [e] at this ⊢
  simp only [List.length_cons] at this
  omega

theorem holds_at {u : Nat} {p p' : Pr} (h : atP p' = atP p) (h1 : p.phase ≠ 20) (h2 : p'.phase ≠ 20) : holdsP u p' = holdsP u p := by
  unfold holdsP
  rw [h]
  simp [h1, h2]

theorem nowait {p : Pr} (h6 : p.phase ≠ 6) (h7 : p.phase ≠ 7) (u k : Int) : waitP u k p = false := by simp [waitP, h6, h7]
theorem noplace {p : Pr} {v : Nat} (h : p.node = (v : Int)) (u k : Nat) (hne : u ≠ v) : waitP u k p = false := by
  have : ¬ p.node = (u : Int) := by rw [h]; omega
  simp [waitP, this]

/-- What is known of process i ahead of its step. -/
structure Here (c : Conf) (L : Lay) (P : PLay) (i v : Nat) (p : Pr) (n : PN) : Prop where
  rel : WRel c L P
  hi : i < L.procs.length
  ep : (L.procs[i]).2 = p
  en : P.nodes.getD v zeroPN = n
  q : QInv c L.hist L.past.length L.procs.length i p
  live : p.phase ≠ 20
  at' : p.node = (v : Int)
  v1 : 1 ≤ v
  vN : v < L.past.length
  f3 : formH (L.hist v) ≠ 3
  nr : NRel c L.procs v (L.hist v) n

theorem WRel.here {c : Conf} {L : Lay} {P : PLay} (h : WRel c L P) {i : Nat} (hi : i < L.procs.length) (hl : (L.procs[i]).2.phase ≠ 20) : ∃ v n, Here c L P i v (L.procs[i]).2 n := by
  obtain ⟨v, e, h1, h2, h3⟩ := (h.qs i hi).live hl
  exact ⟨v, _, h, hi, rfl, rfl, h.qs i hi, hl, e, h1, h2, h3, h.nodes v h1 h2⟩

section
variable {c : Conf} {L : Lay} {P : PLay} {i v : Nat} {p : Pr} {n : PN}

theorem Here.isz (h : Here c L P i v p n) : n.items.length ≤ 10000 := by
  have := h.rel.isz v h.v1 (by have := h.rel.lenle; have := h.vN; omega)
  rw [h.en] at this
  exact this
theorem Here.toNat (h : Here c L P i v p n) : p.node.toNat = v := by rw [h.at']; simp

/-- The process alone changes; it waits neither before nor behind, and stands inside of the same nodes. -/
theorem Here.plain (h : Here c L P i v p n) (p' : Pr) (hat : atP p' = atP p) (hl : p'.phase ≠ 20) (hw : ∀ k : Nat, waitP v k p = false) (hw' : ∀ u k : Nat, waitP u k p' = false) (hpot : potP p ≤ potP p')
    (hq : QInv c L.hist L.past.length L.procs.length i p') (hown : p'.phase = 13 → p.phase = 13 ∧ p'.node = p.node ∧ p'.ticket = p.ticket) : WRel c (L.setP i p') (P.foc v n i (toPP p')) := by
  have hep := h.ep
  refine h.rel.move h.hi (moved_plain c L P i v p' n) ?_
  rw [hep]
  have hin : ∀ u, holdsP u p' = holdsP u p := fun u => holds_at hat h.live hl
  refine ⟨h.v1, h.vN, rfl, rfl, Int.le_refl _, by show totL L.past + _ ≤ _; omega, h.at', h.live, fun u _ _ _ => hin u, fun u k _ => hw' u k, ?_, hq, h.isz, fun j hj _ _ _ h0 => h0, ?_⟩
  · exact h.nr.other h.hi _ (by rw [hep]; exact hin v) (fun k => ⟨by rw [hep]; exact hw k, hw' v k⟩)
  · intro h13
    obtain ⟨a1, a2, a3⟩ := hown h13
    have h0 := h.rel.tk0 i h.hi (by rw [hep]; exact a1)
    rw [hep] at h0
    rw [a2, a3]
    refine ⟨h0, fun j hj hne j13 jn jt => hne ?_⟩
    exact h.rel.uniq j i hj h.hi j13 (by rw [hep]; exact a1) (by rw [hep]; exact jn) (by rw [hep]; exact jt)

theorem Here.enter (h : Here c L P i v p n) (hph : p.phase = 0) : WRel c (L.setP i { incPr p with phase := 1 }) (P.foc v { n with inside := n.inside + 1 } i (toPP { incPr p with phase := 1 })) := by
  have hep := h.ep
  have hl := h.rel.lenle
  have htn := h.toNat
  have ha : atP p = v / 2 := by unfold atP; rw [if_pos (Or.inl hph), htn]
  have ha' : atP { incPr p with phase := 1 } = v := by unfold atP; rw [if_neg (by simp)]; exact htn
  have hst := fun u (hu1 : 1 ≤ u) (hu : u < 64) => climb_step ⟨v, by have := h.vN; omega⟩ ⟨u, hu⟩ h.v1 hu1
  have hh : ∀ u, 1 ≤ u → u < 64 → holdsP u { incPr p with phase := 1 } = (decide (u = v) || holdsP u p) := by
    intro u h1 h2
    have := (hst u h1 h2).1
    simp only at this
    unfold holdsP
    rw [ha, ha', this]
    simp [hph]
  have hvv : holdsP v p = false := by
    have := (hst v h.v1 (by have := h.vN; omega)).2 rfl
    simp only at this
    unfold holdsP
    rw [ha]
    simp [this]
  refine h.rel.move h.hi (moved_plain c L P i v _ _) ?_
  rw [hep]
  refine ⟨h.v1, h.vN, rfl, rfl, Int.le_refl _, ?_, h.at', h.live, ?_, fun u k _ => nowait (by simp) (by simp) _ _, ?_, ?_, h.isz, fun j hj _ _ _ h0 => h0, fun h13 => absurd h13 (by simp)⟩
  · show totL L.past + _ ≤ _
    simp [potP, hph]
  · intro u h1 h2 hne
    rw [hh u h1 (by omega)]
    simp [hne]
  · have hs : insideL v (L.setP i { incPr p with phase := 1 }).procs + (if holdsP v (L.procs[i]'h.hi).2 then 1 else 0) = insideL v L.procs + (if holdsP v { incPr p with phase := 1 } then 1 else 0) := insideL_set v L.procs i h.hi _
    have e1 : (if holdsP v (L.procs[i]'h.hi).2 then 1 else 0) = 0 := by rw [hep, hvv]; rfl
    have e2 : (if holdsP v { incPr p with phase := 1 } then 1 else 0) = 1 := by rw [hh v h.v1 (by have := h.vN; omega)]; simp
    rw [e1, e2] at hs
    refine ⟨h.nr.form, h.nr.there, fun h3 => ?_, fun hf => ?_, h.nr.leaf⟩
    · show n.inside + 1 = _
      rw [h.nr.inside h3]
      omega
    · obtain ⟨a1, a2, a3, a4, a5, a6⟩ := h.nr.inn hf
      refine ⟨a1, a2, a3, a4, a5, fun k hk => ?_⟩
      exact (a6 k hk).keep h.hi _ (by rw [hep]; exact nowait (by omega) (by omega) _ _) (nowait (by simp) (by simp) _ _)
  · have q := h.q
    exact ⟨by simp, q.kind, fun a => absurd a (by simp), fun _ => q.live h.live, fun a b => absurd a (by simp), fun a b => absurd a (by simp), q.slot, ⟨q.wide.1, q.wide.2.1, fun a b => absurd a (by simp)⟩, fun a => absurd a (by simp), q.pat, q.tick.1, q.tick.2.1, fun a => absurd a (by simp)⟩

theorem Here.back (h : Here c L P i v p n) (hph : p.phase = 2) : WRel c (L.setP i { incPr p with phase := 0 }) (P.foc v { n with inside := n.inside - 1 } i (toPP { incPr p with phase := 0 })) := by
  have hep := h.ep
  have hl := h.rel.lenle
  have htn := h.toNat
  have ha' : atP { incPr p with phase := 0 } = v / 2 := by unfold atP; rw [if_pos (Or.inl rfl)]; show p.node.toNat / 2 = _; rw [htn]
  have ha : atP p = v := by unfold atP; rw [if_neg (by omega)]; exact htn
  have hst := fun u (hu1 : 1 ≤ u) (hu : u < 64) => climb_step ⟨v, by have := h.vN; omega⟩ ⟨u, hu⟩ h.v1 hu1
  have hh : ∀ u, 1 ≤ u → u < 64 → holdsP u p = (decide (u = v) || holdsP u { incPr p with phase := 0 }) := by
    intro u h1 h2
    have := (hst u h1 h2).1
    simp only at this
    unfold holdsP
    rw [ha, ha', this]
    simp [hph]
  have hvv : holdsP v { incPr p with phase := 0 } = false := by
    have := (hst v h.v1 (by have := h.vN; omega)).2 rfl
    simp only at this
    unfold holdsP
    rw [ha']
    simp [this]
  refine h.rel.move h.hi (moved_plain c L P i v _ _) ?_
  rw [hep]
  refine ⟨h.v1, h.vN, rfl, rfl, Int.le_refl _, ?_, h.at', h.live, ?_, fun u k _ => nowait (by simp) (by simp) _ _, ?_, ?_, h.isz, fun j hj _ _ _ h0 => h0, fun h13 => absurd h13 (by simp)⟩
  · show totL L.past + _ ≤ _
    simp [potP, hph]
  · intro u h1 h2 hne
    rw [hh u h1 (by omega)]
    simp [hne]
  · have hs : insideL v (L.setP i { incPr p with phase := 0 }).procs + (if holdsP v (L.procs[i]'h.hi).2 then 1 else 0) = insideL v L.procs + (if holdsP v { incPr p with phase := 0 } then 1 else 0) := insideL_set v L.procs i h.hi _
    have e1 : (if holdsP v (L.procs[i]'h.hi).2 then 1 else 0) = 1 := by rw [hep, hh v h.v1 (by have := h.vN; omega)]; simp
    have e2 : (if holdsP v { incPr p with phase := 0 } then 1 else 0) = 0 := by rw [hvv]; rfl
    rw [e1, e2] at hs
    refine ⟨h.nr.form, h.nr.there, fun h3 => ?_, fun hf => ?_, h.nr.leaf⟩
    · show n.inside - 1 = _
      rw [h.nr.inside h3]
      omega
    · obtain ⟨a1, a2, a3, a4, a5, a6⟩ := h.nr.inn hf
      refine ⟨a1, a2, a3, a4, a5, fun k hk => ?_⟩
      exact (a6 k hk).keep h.hi _ (by rw [hep]; exact nowait (by omega) (by omega) _ _) (nowait (by simp) (by simp) _ _)
  · have q := h.q
    exact ⟨by simp, q.kind, fun a => absurd a (by simp), fun _ => q.live h.live, fun a b => absurd a (by simp), fun a b => absurd a (by simp), q.slot, ⟨q.wide.1, q.wide.2.1, fun a b => absurd a (by simp)⟩, fun a => absurd a (by simp), q.pat, q.tick.1, q.tick.2.1, fun a => absurd a (by simp)⟩

theorem Here.leave (h : Here c L P i v p n) (hph : p.phase = 19) : WRel c (L.setP i (upPr (incPr p))) (P.foc v { n with inside := n.inside - 1 } i (toPP (upPr (incPr p)))) := by
  have hep := h.ep
  have hl := h.rel.lenle
  have htn := h.toNat
  have hnode : (upPr (incPr p)).node = ((v / 2 : Nat) : Int) := by show p.node / 2 = _; rw [h.at']; omega
  have hphs : (upPr (incPr p)).phase = if v / 2 = 0 then 20 else 19 := by
    show (if p.node / 2 = 0 then (20 : Int) else 19) = _
    rw [h.at']
    by_cases e : v / 2 = 0
    · rw [if_pos e, if_pos (by omega)]
    · rw [if_neg e, if_neg (by omega)]
  have h67 : (upPr (incPr p)).phase ≠ 6 ∧ (upPr (incPr p)).phase ≠ 7 ∧ (upPr (incPr p)).phase ≠ 13 := by rw [hphs]; split <;> simp
  have ha : atP p = v := by unfold atP; rw [if_neg (by omega)]; exact htn
  have ha' : atP (upPr (incPr p)) = v / 2 := by
    unfold atP
    rw [if_neg (by rw [hphs]; split <;> simp), hnode]
    exact Int.toNat_natCast _
  have hst := fun u (hu1 : 1 ≤ u) (hu : u < 64) => climb_step ⟨v, by have := h.vN; omega⟩ ⟨u, hu⟩ h.v1 hu1
  have hh : ∀ u, 1 ≤ u → u < 64 → holdsP u p = (decide (u = v) || holdsP u (upPr (incPr p))) := by
    intro u h1 h2
    have := (hst u h1 h2).1
    simp only at this
    unfold holdsP
    rw [ha, ha', this, hphs]
    by_cases e : v / 2 = 0
    · have hz : climb 6 (v / 2) u ≠ u := by rw [e, climb_zero]; omega
      simp [hph, hz]
    · simp [hph, e]
  have hvv : holdsP v (upPr (incPr p)) = false := by
    have := (hst v h.v1 (by have := h.vN; omega)).2 rfl
    simp only at this
    unfold holdsP
    rw [ha']
    simp [this]
  refine h.rel.move h.hi (moved_plain c L P i v _ _) ?_
  rw [hep]
  refine ⟨h.v1, h.vN, rfl, rfl, Int.le_refl _, ?_, h.at', h.live, ?_, fun u k _ => nowait h67.1 h67.2.1 _ _, ?_, ?_, h.isz, fun j hj _ _ _ h0 => h0, fun h13 => absurd h13 h67.2.2⟩
  · show totL L.past + _ ≤ _
    have : potP (upPr (incPr p)) = 20 := by unfold potP; rw [if_pos (by rw [hphs]; split <;> simp)]
    rw [this]
    simp [potP, hph]
  · intro u h1 h2 hne
    rw [hh u h1 (by omega)]
    simp [hne]
  · have hs : insideL v (L.setP i (upPr (incPr p))).procs + (if holdsP v (L.procs[i]'h.hi).2 then 1 else 0) = insideL v L.procs + (if holdsP v (upPr (incPr p)) then 1 else 0) := insideL_set v L.procs i h.hi _
    have e1 : (if holdsP v (L.procs[i]'h.hi).2 then 1 else 0) = 1 := by rw [hep, hh v h.v1 (by have := h.vN; omega)]; simp
    have e2 : (if holdsP v (upPr (incPr p)) then 1 else 0) = 0 := by rw [hvv]; rfl
    rw [e1, e2] at hs
    refine ⟨h.nr.form, h.nr.there, fun h3 => ?_, fun hf => ?_, h.nr.leaf⟩
    · show n.inside - 1 = _
      rw [h.nr.inside h3]
      omega
    · obtain ⟨a1, a2, a3, a4, a5, a6⟩ := h.nr.inn hf
      refine ⟨a1, a2, a3, a4, a5, fun k hk => ?_⟩
      exact (a6 k hk).keep h.hi _ (by rw [hep]; exact nowait (by omega) (by omega) _ _) (nowait h67.1 h67.2.1 _ _)
  · have q := h.q
    have hp9 : ¬ ((upPr (incPr p)).phase ≤ 14) := by rw [hphs]; split <;> simp
    have hp8 : (upPr (incPr p)).phase ≠ 8 := by rw [hphs]; split <;> simp
    refine ⟨by rw [hphs]; split <;> simp, q.kind, fun a => ?_, fun a => ?_, fun _ b => absurd b (by omega), fun _ b => absurd b hp9, q.slot, ⟨q.wide.1, q.wide.2.1, fun _ b => absurd b (by omega)⟩, fun a => absurd a hp8, q.pat, q.tick.1, q.tick.2.1, fun a => absurd a h67.2.2⟩
    · rw [hphs] at a
      split at a
      · rename_i e; rw [hnode, e]; rfl
      · simp at a
    · rw [hphs] at a
      split at a
      · simp at a
      · rename_i e
        refine ⟨v / 2, hnode, by omega, by have := h.vN; omega, h.rel.par v (by omega) h.vN h.f3⟩
end

/-- A process is written that stands and waits as before. -/
theorem SlotRel.alike {ps : Prs} {v k : Nat} {s : SL} (h : SlotRel ps v k s) {i : Nat} (hi : i < ps.length) (x : Nat × Pr) (h1 : x.2.phase = (ps[i]).2.phase) (h2 : x.2.node = (ps[i]).2.node) (h3 : x.2.slot = (ps[i]).2.slot) (h4 : x.2.met = (ps[i]).2.met) : SlotRel (ps.set i x) v k s := by
  have key : ∀ a, (ha : a < ps.length) → (ha' : a < (ps.set i x).length) → waitP v k ((ps.set i x)[a]).2 = waitP v k (ps[a]).2 ∧ ((ps.set i x)[a]).2.phase = (ps[a]).2.phase ∧ ((ps.set i x)[a]).2.met = (ps[a]).2.met := by
    intro a ha ha'
    by_cases e : a = i
    · subst e
      simp only [List.getElem_set_self]
      exact ⟨by unfold waitP; rw [h1, h2, h3], h1, h4⟩
    · simp only [List.getElem_set_ne (Ne.symm e), and_self]
  rcases h with ⟨h0, h5⟩ | ⟨j, hj, a1, a2, a3, a4⟩
  · exact Or.inl ⟨h0, fun a ha' => by have ha : a < ps.length := by simpa using ha'
                                      rw [(key a ha ha').1]; exact h5 a ha⟩
  · have hj' : j < (ps.set i x).length := by simpa using hj
    refine Or.inr ⟨j, hj', a1, by rw [(key j hj hj').1]; exact a2, fun a ha' hw => ?_, ?_⟩
    · have ha : a < ps.length := by simpa using ha'
      rw [(key a ha ha').1] at hw
      exact a3 a ha hw
    · rw [(key j hj hj').2.1, (key j hj hj').2.2, List.length_set]
      exact a4

/-- The one that waits is gone: the slot is free. -/
theorem SlotRel.gone {ps : Prs} {v k : Nat} {s : SL} (h : SlotRel ps v k s) {i : Nat} (hi : i < ps.length) (hw : waitP v k (ps[i]).2 = true) (x : Nat × Pr) (hx : waitP v k x.2 = false) : SlotRel (ps.set i x) v k zeroSL := by
  rcases h with ⟨_, h5⟩ | ⟨j, hj, a1, a2, a3, a4⟩
  · rw [h5 i hi] at hw; simp at hw
  · refine Or.inl ⟨rfl, fun a ha' => ?_⟩
    have ha : a < ps.length := by simpa using ha'
    by_cases e : a = i
    · subst e; simp only [List.getElem_set_self]; exact hx
    · simp only [List.getElem_set_ne (Ne.symm e)]
      cases hwa : waitP v k (ps[a]).2 with
      | false => rfl
      | true =>
        have := a3 a ha hwa
        have := a3 i hi hw
        omega

theorem log2_kid : ∀ v : Fin 32, 1 ≤ v.1 → Nat.log2 (2 * v.1) = Nat.log2 v.1 + 1 ∧ Nat.log2 (2 * v.1 + 1) = Nat.log2 v.1 + 1 := by decide
theorem log2_32 : ∀ v : Fin 32, Nat.log2 v.1 ≤ 4 := by decide

section
variable {c : Conf} {L : Lay} {P : PLay} {i v : Nat} {p : Pr} {n : PN}

theorem Here.v32 (h : Here c L P i v p n) : v < 32 := by have := h.rel.lenle; have := h.vN; omega
theorem Here.lg (h : Here c L P i v p n) : Nat.log2 v ≤ 4 := log2_32 ⟨v, h.v32⟩

theorem Here.foc_self (h : Here c L P i v p n) (s : Int) : P.foc v n i (toPP { p with steps := s }) = P := by
  have hl := h.rel.plen
  have hv := h.v32
  have hpl : i < P.procs.length := by rw [h.rel.procs, List.length_map]; exact h.hi
  have e1 : P.nodes.set v n = P.nodes := by
    have : n = P.nodes[v]'(by omega) := by rw [← h.en]; simp [List.getD_eq_getElem?_getD, List.getElem?_eq_getElem (by omega : v < P.nodes.length)]
    rw [this, List.set_getElem_self]
  have e2 : P.procs.set i (toPP { p with steps := s }) = P.procs := by
    have : toPP { p with steps := s } = P.procs[i] := by
      have : P.procs[i] = toPP (L.procs[i]'h.hi).2 := by simp [h.rel.procs]
      rw [this, h.ep]
      rfl
    rw [this, List.set_getElem_self]
  show ({ P with nodes := P.nodes.set v n, procs := P.procs.set i _ } : PLay) = P
  rw [e1, e2]

/-- Only the count of its steps changes. -/
theorem Here.inc (h : Here c L P i v p n) : Here c (L.setP i (incPr p)) P i v (incPr p) n := by
  have hep := h.ep
  have hw : WRel c (L.setP i (incPr p)) (P.foc v n i (toPP (incPr p))) := by
    refine h.rel.move h.hi (moved_plain c L P i v (incPr p) n) ?_
    rw [hep]
    have hin : ∀ u, holdsP u (incPr p) = holdsP u p := fun u => rfl
    refine ⟨h.v1, h.vN, rfl, rfl, Int.le_refl _, Nat.le_refl _, h.at', h.live, fun u _ _ _ => hin u, fun u k hne => noplace h.at' u k hne, ?_, ?_, h.isz, fun j hj _ _ _ h0 => h0, ?_⟩
    · have hins : insideL v (L.setP i (incPr p)).procs = insideL v L.procs := by
        have : insideL v (L.setP i (incPr p)).procs + (if holdsP v (L.procs[i]'h.hi).2 then 1 else 0) = insideL v L.procs + (if holdsP v (incPr p) then 1 else 0) := insideL_set v L.procs i h.hi _
        rw [hep, hin] at this
        omega
      refine ⟨h.nr.form, h.nr.there, fun h3 => by rw [hins]; exact h.nr.inside h3, fun h1 => ?_, h.nr.leaf⟩
      obtain ⟨a1, a2, a3, a4, a5, a6⟩ := h.nr.inn h1
      exact ⟨a1, a2, a3, a4, a5, fun k hk => (a6 k hk).alike h.hi _ (by rw [hep]) (by rw [hep]) (by rw [hep]) (by rw [hep])⟩
    · have q := h.q
      exact ⟨q.phase, q.kind, q.done, q.live, q.inner, q.leaf, q.slot, q.wide, q.mind, q.pat, q.tick⟩
    · intro h13
      have h0 := h.rel.tk0 i h.hi (by rw [hep]; exact h13)
      rw [hep] at h0
      refine ⟨h0, fun j hj hne j13 jn jt => hne ?_⟩
      exact h.rel.uniq j i hj h.hi j13 (by rw [hep]; exact h13) (by rw [hep]; exact jn) (by rw [hep]; exact jt)
  have hfs := h.foc_self (wrap64 (p.steps + 1))
  have hw' : WRel c (L.setP i (incPr p)) P := by rw [← hfs]; exact hw
  have hi' : i < (L.setP i (incPr p)).procs.length := by simpa using h.hi
  have hep' : ((L.setP i (incPr p)).procs[i]'hi').2 = incPr p := by simp
  have hq := hw'.qs i hi'
  rw [hep'] at hq
  have hn := hw'.nodes v h.v1 h.vN
  rw [h.en] at hn
  exact ⟨hw', hi', hep', h.en, hq, h.live, h.at', h.v1, h.vN, h.f3, hn⟩

theorem Here.look (h : Here c L P i v p n) (hph : p.phase = 1) : WRel c (L.setP i { p with phase := if formH (L.hist v) = 1 then 3 else 12 }) (P.foc v n i (toPP { p with phase := if formH (L.hist v) = 1 then 3 else 12 })) := by
  have htn := h.toNat
  have q := h.q
  by_cases hf : formH (L.hist v) = 1
  · rw [if_pos hf]
    refine h.plain { p with phase := 3 } (by simp [atP, hph]) (by simp) (fun k => nowait (by omega) (by omega) _ _) (fun u k => nowait (by simp) (by simp) _ _) (by simp [potP, hph]) ?_ (fun a => absurd a (by simp))
    exact ⟨by simp, q.kind, fun a => absurd a (by simp), fun _ => q.live h.live, fun _ _ => by show formH (L.hist p.node.toNat) = 1; rw [htn]; exact hf, fun a b => absurd a (by simp), q.slot, ⟨q.wide.1, q.wide.2.1, fun a b => absurd a (by simp)⟩, fun a => absurd a (by simp), q.pat, q.tick.1, q.tick.2.1, fun a => absurd a (by simp)⟩
  · rw [if_neg hf]
    have hf2 : formH (L.hist v) = 2 := by have := h.nr.form; have := h.f3; omega
    refine h.plain { p with phase := 12 } (by simp [atP, hph]) (by simp) (fun k => nowait (by omega) (by omega) _ _) (fun u k => nowait (by simp) (by simp) _ _) (by simp [potP, hph]) ?_ (fun a => absurd a (by simp))
    exact ⟨by simp, q.kind, fun a => absurd a (by simp), fun _ => q.live h.live, fun a b => absurd b (by simp), fun _ _ => by show formH (L.hist p.node.toNat) = 2; rw [htn]; exact hf2, q.slot, ⟨q.wide.1, q.wide.2.1, fun a b => absurd b (by simp)⟩, fun a => absurd a (by simp), q.pat, q.tick.1, q.tick.2.1, fun a => absurd a (by simp)⟩

theorem Here.kid (h : Here c L P i v p n) (hf : formH (L.hist v) = 1) (b : Int) (hb : b = 0 ∨ b = 1) : ∃ u : Nat, 2 * p.node + b = (u : Int) ∧ 1 ≤ u ∧ u < L.past.length ∧ formH (L.hist u) ≠ 3 ∧ u / 2 = v ∧ Nat.log2 u = Nat.log2 v + 1 := by
  obtain ⟨k1, k2, k3⟩ := h.rel.kids v h.v1 h.vN hf
  have hl := log2_kid ⟨v, h.v32⟩ h.v1
  have := h.v1
  rcases hb with rfl | rfl
  · exact ⟨2 * v, by rw [h.at']; omega, by omega, by omega, k2, by omega, hl.1⟩
  · exact ⟨2 * v + 1, by rw [h.at']; omega, by omega, by omega, k3, by omega, hl.2⟩

theorem Here.toggle (h : Here c L P i v p n) (hph : p.phase = 11) (x : Value) (b : Int) (hb : b = 0 ∨ b = 1) (s : Int) :
    WRel c ((L.hap v x ⟨4, 0, 0, []⟩ (.slice none 0 0)).setP i { p with node := 2 * p.node + b, phase := 0, steps := s }) (P.foc v { n with toggle := 1 - n.toggle } i (toPP { p with node := 2 * p.node + b, phase := 0, steps := s })) := by
  have hep := h.ep
  have htn := h.toNat
  have q := h.q
  have hf := q.inner (by omega) (by omega)
  rw [htn] at hf
  obtain ⟨u, e1, e2, e3, e4, e5, e6⟩ := h.kid hf b hb
  have hun : (2 * p.node + b).toNat = u := by rw [e1]; simp
  refine h.rel.move h.hi (moved_hap c L P i v h.vN x _ _ _ _) ?_
  rw [hep]
  have ha : atP { p with node := 2 * p.node + b, phase := 0, steps := s } = atP p := by
    unfold atP
    rw [if_pos (Or.inl rfl), if_neg (by omega), htn]
    show (2 * p.node + b).toNat / 2 = v
    rw [hun]; exact e5
  have hin : ∀ w, holdsP w { p with node := 2 * p.node + b, phase := 0, steps := s } = holdsP w p := fun w => holds_at ha h.live (by simp)
  refine ⟨h.v1, h.vN, by simp [formH], by simp [fromH], by simp [putsH, fromH, manyH], ?_, h.at', h.live, fun w _ _ _ => hin w, fun w k _ => nowait (by simp) (by simp) _ _, ?_, ?_, h.isz, fun j hj _ _ _ h0 => ?_, fun a => absurd a (by simp)⟩
  · rw [totL_hap L i v h.vN]
    simp only [potP, hph, hun, e6]
    rw [htn]
    simp
    omega
  · have hins : insideL v ((L.hap v x ⟨4, 0, 0, []⟩ (.slice none 0 0)).setP i { p with node := 2 * p.node + b, phase := 0, steps := s }).procs = insideL v L.procs := by
      have : insideL v ((L.hap v x ⟨4, 0, 0, []⟩ (.slice none 0 0)).setP i { p with node := 2 * p.node + b, phase := 0, steps := s }).procs + (if holdsP v (L.procs[i]'h.hi).2 then 1 else 0) = insideL v L.procs + (if holdsP v { p with node := 2 * p.node + b, phase := 0, steps := s } then 1 else 0) := insideL_set v L.procs i h.hi _
      rw [hep, hin] at this
      omega
    obtain ⟨a1, a2, a3, a4, a5, a6⟩ := h.nr.inn hf
    refine ⟨by rw [show formH ((⟨4, 0, 0, []⟩, Value.slice none 0 0) :: L.hist v) = formH (L.hist v) from by simp [formH]]; exact h.nr.form, by rw [show formH ((⟨4, 0, 0, []⟩, Value.slice none 0 0) :: L.hist v) = formH (L.hist v) from by simp [formH]]; exact h.nr.there, fun _ => by rw [hins]; exact h.nr.inside h.f3, fun _ => ?_, fun h2 => ?_⟩
    · refine ⟨a1, ?_, by simp [widthH]; exact a3, a4, a5, fun k hk => (a6 k hk).keep h.hi _ (by rw [hep]; exact nowait (by omega) (by omega) _ _) (nowait (by simp) (by simp) _ _)⟩
      show 1 - n.toggle = _
      rw [a2]
      unfold togH
      simp [fromH, manyH]
      omega
    · rw [show formH ((⟨4, 0, 0, []⟩, Value.slice none 0 0) :: L.hist v) = formH (L.hist v) from by simp [formH]] at h2
      omega
  · have hH : ((L.hap v x ⟨4, 0, 0, []⟩ (.slice none 0 0)).setP i { p with node := 2 * p.node + b, phase := 0, steps := s }).hist u = if u = v then _ else L.hist u := hist_hap L v u x _ _ h.vN
    refine ⟨by simp, q.kind, fun a => absurd a (by simp), fun _ => ⟨u, e1, e2, e3, ?_⟩, fun a b => absurd a (by simp), fun a b => absurd a (by simp), q.slot, ⟨q.wide.1, q.wide.2.1, fun a b => absurd a (by simp)⟩, fun a => absurd a (by simp), q.pat, q.tick.1, q.tick.2.1, fun a => absurd a (by simp)⟩
    rw [hH, if_neg (by omega)]
    exact e4
  · simpa [takenH, itemH, manyH, fromH, laidH] using h0
end

theorem setSlot_fields (n : PN) (k : Nat) (s : SL) : (n.setSlot k s).there = n.there ∧ (n.setSlot k s).inner = n.inner ∧ (n.setSlot k s).shut = n.shut ∧ (n.setSlot k s).inside = n.inside ∧ (n.setSlot k s).toggle = n.toggle ∧ (n.setSlot k s).width = n.width ∧ (n.setSlot k s).puts = n.puts ∧ (n.setSlot k s).gets = n.gets ∧ (n.setSlot k s).items = n.items := by
  rcases k with _ | _ | _ | k <;> exact ⟨rfl, rfl, rfl, rfl, rfl, rfl, rfl, rfl, rfl⟩

section
variable {c : Conf} {L : Lay} {P : PLay} {i v : Nat} {p : Pr} {n : PN}

theorem Here.inner (h : Here c L P i v p n) (h1 : 3 ≤ p.phase) (h2 : p.phase ≤ 11) : formH (L.hist v) = 1 := by
  have := h.q.inner h1 h2
  rw [h.toNat] at this
  exact this

theorem Here.slotk (h : Here c L P i v p n) : ∃ k : Nat, k < 4 ∧ p.slot = (k : Int) := ⟨p.slot.toNat, by have := h.q.slot; omega, by have := h.q.slot; omega⟩

theorem Here.slotRel (h : Here c L P i v p n) (hf : formH (L.hist v) = 1) {k : Nat} (hk : k < 4) : SlotRel L.procs v k (n.slot k) := (h.nr.inn hf).2.2.2.2.2 k hk

theorem wait_else {p : Pr} {k : Nat} (h : p.slot = (k : Int)) (u k' : Nat) (hne : k' ≠ k) : waitP u k' p = false := by
  have : ¬ p.slot = (k' : Int) := by rw [h]; omega
  simp [waitP, this]

/-- The process and its slot change. -/
theorem Here.atSlot (h : Here c L P i v p n) (hf : formH (L.hist v) = 1) {k : Nat} (hk : k < 4) (hs : p.slot = (k : Int)) (p' : Pr) (s' : SL) (hat : atP p' = atP p) (hl : p'.phase ≠ 20) (hw : ∀ u k' : Nat, u ≠ v ∨ k' ≠ k → waitP u k' p' = false)
    (hsr : SlotRel (L.setP i p').procs v k s') (hpot : potP p ≤ potP p') (hq : QInv c L.hist L.past.length L.procs.length i p') (h13 : p'.phase ≠ 13) : WRel c (L.setP i p') (P.foc v (n.setSlot k s') i (toPP p')) := by
  have hep := h.ep
  obtain ⟨t1, t2, t3, t4, t5, t6, t7, t8, t9⟩ := setSlot_fields n k s'
  refine h.rel.move h.hi (moved_plain c L P i v p' (n.setSlot k s')) ?_
  rw [hep]
  have hin : ∀ u, holdsP u p' = holdsP u p := fun u => holds_at hat h.live hl
  refine ⟨h.v1, h.vN, rfl, rfl, Int.le_refl _, by show totL L.past + _ ≤ _; omega, h.at', h.live, fun u _ _ _ => hin u, fun u k' hne => hw u k' (Or.inl hne), ?_, hq, by rw [t9]; exact h.isz, fun j hj _ _ _ h0 => h0, fun a => absurd a h13⟩
  have hins : insideL v (L.setP i p').procs = insideL v L.procs := by
    have : insideL v (L.setP i p').procs + (if holdsP v (L.procs[i]'h.hi).2 then 1 else 0) = insideL v L.procs + (if holdsP v p' then 1 else 0) := insideL_set v L.procs i h.hi _
    rw [hep, hin] at this
    omega
  obtain ⟨a1, a2, a3, a4, a5, a6⟩ := h.nr.inn hf
  refine ⟨h.nr.form, by rw [t1]; exact h.nr.there, fun h3 => by rw [hins, t4]; exact h.nr.inside h3, fun _ => ⟨by rw [t2]; exact a1, by rw [t5]; exact a2, by rw [t6]; exact a3, by rw [t6]; exact a4, by rw [t6]; exact a5, fun k' hk' => ?_⟩, fun h2 => by omega⟩
  by_cases e : k' = k
  · subst e
    rw [setSlot_slot _ _ hk]
    exact hsr
  · rw [setSlot_other _ _ hk _ hk' e]
    exact (a6 k' hk').keep h.hi _ (by rw [hep]; exact wait_else hs v k' e) (hw v k' (Or.inr e))

theorem Here.wide (h : Here c L P i v p n) (hph : p.phase = 3) (draw : Int) (m : Nat) (hm : widthH (L.hist v) = (m : Int)) : WRel c (L.setP i { p with wide := m, slot := draw % m, phase := 4 }) (P.foc v n i (toPP { p with wide := m, slot := draw % m, phase := 4 })) := by
  have q := h.q
  have hf := h.inner (by omega) (by omega)
  have a := h.nr.inn hf
  have hc := h.rel.confs
  have hm1 : 1 ≤ (m : Int) := by rw [← hm, ← a.2.2.1]; exact a.2.2.2.1
  have hmc : (m : Int) ≤ c.width := by rw [← hm, ← a.2.2.1]; exact a.2.2.2.2.1
  have d0 := Int.emod_nonneg draw (show (m : Int) ≠ 0 by omega)
  have d1 := Int.emod_lt_of_pos draw (show 0 < (m : Int) by omega)
  refine h.plain _ (by simp [atP, hph]) (by simp) (fun k => nowait (by omega) (by omega) _ _) (fun u k => nowait (by simp) (by simp) _ _) (by simp [potP, hph]) ?_ (fun a => absurd a (by simp))
  exact ⟨by simp, q.kind, fun a => absurd a (by simp), fun _ => q.live h.live, fun _ _ => q.inner (by omega) (by omega), fun a b => absurd a (by simp), ⟨d0, by show draw % (m : Int) < 4; omega⟩, ⟨by show 0 ≤ (m : Int); omega, hmc, fun _ _ => hm1⟩, fun a => absurd a (by simp), q.pat, q.tick.1, q.tick.2.1, fun a => absurd a (by simp)⟩

/-- A move among the phases Slot to Toggle that changes nothing but the phase (and what is kept in mind). -/
theorem Here.among (h : Here c L P i v p n) (h3 : 3 ≤ p.phase) (h10 : p.phase ≤ 10) (h6 : p.phase ≠ 6) (h7 : p.phase ≠ 7) (ph md : Int) (hp : ph = 5 ∨ ph = 8 ∨ ph = 9 ∨ ph = 11) (hmd : ph = 8 → ∃ j : Nat, md = (j : Int) ∧ j < L.procs.length ∧ j ≠ i) (h4 : 4 ≤ p.phase) :
    WRel c (L.setP i { p with mind := md, phase := ph }) (P.foc v n i (toPP { p with mind := md, phase := ph })) := by
  have HM : Hid _ := hmd
  clear hmd
  have q := h.q
  have e1 : ¬ (p.phase = 0 ∨ p.phase = 15 ∨ p.phase = 16 ∨ p.phase = 17 ∨ p.phase = 18) := by omega
  have e2 : ¬ (ph = 0 ∨ ph = 15 ∨ ph = 16 ∨ ph = 17 ∨ ph = 18) := by omega
  refine h.plain _ (by unfold atP; rw [if_neg e1, if_neg e2]) (by show ph ≠ 20; omega) (fun k => nowait h6 h7 _ _) (fun u k => nowait (by show ph ≠ 6; omega) (by show ph ≠ 7; omega) _ _) ?_ ?_ (fun a => absurd a (by show ph ≠ 13; omega))
  · show (if p.phase = 19 ∨ p.phase = 20 then 20 else if p.phase = 11 ∨ p.phase = 13 ∨ p.phase = 14 then 3 * Nat.log2 p.node.toNat + 1 else 3 * Nat.log2 p.node.toNat) ≤ (if ph = 19 ∨ ph = 20 then 20 else if ph = 11 ∨ ph = 13 ∨ ph = 14 then 3 * Nat.log2 p.node.toNat + 1 else 3 * Nat.log2 p.node.toNat)
    rw [if_neg (by omega), if_neg (by omega), if_neg (by omega)]
    split <;> omega
  · exact ⟨by show 0 ≤ ph ∧ ph ≤ 20; omega, q.kind, fun a => absurd a (by show ph ≠ 20; omega), fun _ => q.live h.live, fun _ _ => q.inner h3 (by omega), fun a b => absurd a (by show ¬ 12 ≤ ph; omega), q.slot, ⟨q.wide.1, q.wide.2.1, fun _ _ => q.wide.2.2 h4 h10⟩, HM.out, q.pat, q.tick.1, q.tick.2.1, fun a => absurd a (by show ph ≠ 13; omega)⟩

theorem Here.claim (h : Here c L P i v p n) (hph : p.phase = 5) {k : Nat} (hk : k < 4) (hs : p.slot = (k : Int)) (h0 : (n.slot k).st = 0) :
    WRel c (L.setP i { p with phase := 6, met := -1, pat := c.spin }) (P.foc v (n.setSlot k ⟨1, i, 0⟩) i (toPP { p with phase := 6, met := -1, pat := c.spin })) := by
  have q := h.q
  have hf := h.inner (by omega) (by omega)
  have hc := h.rel.confs
  refine h.atSlot hf hk hs _ _ (by simp [atP, hph]) (by simp) ?_ ?_ (by simp [potP, hph]) ?_ (by simp)
  · intro u k' hne
    rcases hne with hne | hne
    · exact noplace (p := { p with phase := 6, met := -1, pat := c.spin }) h.at' u k' hne
    · exact wait_else (p := { p with phase := 6, met := -1, pat := c.spin }) hs u k' hne
  · have hsr := h.slotRel hf hk
    rcases hsr with ⟨_, hall⟩ | ⟨j, hj, _, _, _, a4⟩
    · refine Or.inr ⟨i, by simpa using h.hi, rfl, ?_, ?_, Or.inl ⟨rfl, ?_, ?_⟩⟩
      · simp [waitP, h.at', hs]
      · intro a ha' hw
        have ha : a < L.procs.length := by simpa using ha'
        by_cases e : a = i
        · exact e
        · simp only [List.getElem_set_ne (Ne.symm e)] at hw
          rw [hall a ha] at hw
          simp at hw
      · simp
      · simp
    · rcases a4 with a4 | a4 <;> omega
  · exact ⟨by simp, q.kind, fun a => absurd a (by simp), fun _ => q.live h.live, fun _ _ => q.inner (by omega) (by omega), fun a b => absurd a (by simp), q.slot, ⟨q.wide.1, q.wide.2.1, fun _ _ => q.wide.2.2 (by omega) (by omega)⟩, fun a => absurd a (by simp), by show c.spin ≤ 1000; omega, q.tick.1, q.tick.2.1, fun a => absurd a (by simp)⟩

/-- Who waits: his own slot. -/
theorem Here.mine (h : Here c L P i v p n) (hph : p.phase = 6 ∨ p.phase = 7) {k : Nat} (hk : k < 4) (hs : p.slot = (k : Int)) (hf : formH (L.hist v) = 1) :
    waitP v k p = true ∧ ((n.slot k).st = 1 ∧ p.phase = 6 ∧ p.met = -1 ∨ (n.slot k).st = 2 ∧ ∃ b : Nat, (n.slot k).by' = (b : Int) ∧ p.met = (b : Int) ∧ b < L.procs.length ∧ b ≠ i) := by
  have hep := h.ep
  have hw : waitP v k p = true := by simp [waitP, h.at', hs, hph]
  refine ⟨hw, ?_⟩
  rcases h.slotRel hf hk with ⟨_, hall⟩ | ⟨j, hj, a1, a2, a3, a4⟩
  · have := hall i h.hi
    rw [hep, hw] at this
    simp at this
  · have hij : i = j := a3 i h.hi (by rw [hep]; exact hw)
    subst hij
    rw [hep] at a4
    exact a4

theorem Here.wait (h : Here c L P i v p n) (hph : p.phase = 6) {k : Nat} (hk : k < 4) (hs : p.slot = (k : Int)) :
    WRel c (L.setP i (waitPr p)) (P.foc v (waitPN n k (toPP p)) i (waitPP (n.slot k) (toPP p))) ∧ toPP (waitPr p) = waitPP (n.slot k) (toPP p) := by
  have q := h.q
  have hep := h.ep
  have hf := h.inner (by omega) (by omega)
  obtain ⟨hw, hm⟩ := h.mine (Or.inl hph) hk hs hf
  have hsr := h.slotRel hf hk
  have hqq : ∀ (ph pt : Int), ph = 6 ∨ ph = 7 ∨ ph = 10 → pt ≤ 1000 → QInv c L.hist L.past.length L.procs.length i { p with phase := ph, pat := pt } := by
    intro ph pt hp hpt
    exact ⟨by show 0 ≤ ph ∧ ph ≤ 20; omega, q.kind, fun a => absurd a (by show ph ≠ 20; omega), fun _ => q.live h.live, fun _ _ => q.inner (by omega) (by omega), fun a b => absurd a (by show ¬ 12 ≤ ph; omega), q.slot, ⟨q.wide.1, q.wide.2.1, fun _ _ => q.wide.2.2 (by omega) (by omega)⟩, fun a => absurd a (by show ph ≠ 8; omega), hpt, q.tick.1, q.tick.2.1, fun a => absurd a (by show ph ≠ 13; omega)⟩
  have nself : n.setSlot k (n.slot k) = n := by
    have : k = 0 ∨ k = 1 ∨ k = 2 ∨ k = 3 := by omega
    rcases this with rfl | rfl | rfl | rfl <;> rfl
  rcases hm with ⟨s1, _, m1⟩ | ⟨s2, b, by1, m2, hb, hbi⟩
  · have e2 : ¬ (n.slot k).st = 2 := by omega
    by_cases hpt : 0 < p.pat
    · have ew : waitPr p = { p with pat := p.pat - 1 } := by unfold waitPr; rw [if_neg (by omega), if_pos hpt]
      have ep : waitPP (n.slot k) (toPP p) = toPP { p with pat := p.pat - 1 } := by unfold waitPP; rw [if_neg e2, if_pos (show 0 < (toPP p).pat from hpt)]; rfl
      have en : waitPN n k (toPP p) = n.setSlot k (n.slot k) := by unfold waitPN; rw [if_neg e2, if_pos (show 0 < (toPP p).pat from hpt), nself]
      rw [ew, ep, en]
      refine ⟨h.atSlot hf hk hs _ _ rfl (by show p.phase ≠ 20; omega) ?_ ?_ (by simp [potP]) ?_ (by show p.phase ≠ 13; omega), rfl⟩
      · intro u k' hne
        rcases hne with hne | hne
        · exact noplace (p := { p with pat := p.pat - 1 }) h.at' u k' hne
        · exact wait_else (p := { p with pat := p.pat - 1 }) hs u k' hne
      · exact hsr.alike h.hi _ (by rw [hep]) (by rw [hep]) (by rw [hep]) (by rw [hep])
      · have := hqq p.phase (p.pat - 1) (by omega) (by have := q.pat; omega)
        exact this
    · have ew : waitPr p = { p with phase := 10 } := by unfold waitPr; rw [if_neg (by omega), if_neg hpt]
      have ep : waitPP (n.slot k) (toPP p) = toPP { p with phase := 10 } := by unfold waitPP; rw [if_neg e2, if_neg (show ¬ 0 < (toPP p).pat from hpt)]; rfl
      have en : waitPN n k (toPP p) = n.setSlot k zeroSL := by unfold waitPN; rw [if_neg e2, if_neg (show ¬ 0 < (toPP p).pat from hpt)]
      rw [ew, ep, en]
      refine ⟨h.atSlot hf hk hs _ _ (by simp [atP, hph]) (by simp) (fun u k' _ => nowait (by simp) (by simp) _ _) ?_ (by simp [potP, hph]) (hqq 10 p.pat (by omega) q.pat) (by simp), rfl⟩
      exact hsr.gone h.hi (by rw [hep]; exact hw) _ (nowait (by simp) (by simp) _ _)
  · have ew : waitPr p = { p with phase := 7 } := by unfold waitPr; rw [if_pos (by omega)]
    have ep : waitPP (n.slot k) (toPP p) = toPP { p with phase := 7 } := by unfold waitPP; rw [if_pos s2]; rfl
    have en : waitPN n k (toPP p) = n.setSlot k (n.slot k) := by unfold waitPN; rw [if_pos s2, nself]
    rw [ew, ep, en]
    refine ⟨h.atSlot hf hk hs _ _ (by simp [atP, hph]) (by simp) ?_ ?_ (by simp [potP, hph]) (hqq 7 p.pat (by omega) q.pat) (by simp), rfl⟩
    · intro u k' hne
      rcases hne with hne | hne
      · exact noplace (p := { p with phase := 7 }) h.at' u k' hne
      · exact wait_else (p := { p with phase := 7 }) hs u k' hne
    · rcases hsr with ⟨h0, _⟩ | ⟨j, hj, a1, a2, a3, a4⟩
      · omega
      · have hij : i = j := a3 i h.hi (by rw [hep]; exact hw)
        subst hij
        refine Or.inr ⟨i, by simpa using h.hi, a1, ?_, ?_, Or.inr ⟨s2, b, by1, ?_, by simpa using hb, hbi⟩⟩
        · simp [waitP, h.at', hs]
        · intro a ha' hwa
          have ha : a < L.procs.length := by simpa using ha'
          by_cases e : a = i
          · exact e
          · simp only [List.getElem_set_ne (Ne.symm e)] at hwa
            exact a3 a ha hwa
        · simp only [List.getElem_set_self]
          exact m2
end

section
variable {c : Conf} {L : Lay} {P : PLay} {i v : Nat} {p : Pr} {n : PN}

/-- How a process stands that has settled a meeting: on its way down or out. -/
theorem Here.settledQ (h : Here c L P i v p n) (hf : formH (L.hist v) = 1) (h4 : 4 ≤ p.phase) (h10 : p.phase ≤ 10) (q : Pr) (b : Int) (hb : b = 0 ∨ b = 1) (m : Int) :
    (settledPr { p with met := m } q b).phase ≠ 20 ∧ (settledPr { p with met := m } q b).phase ≠ 13 ∧ (settledPr { p with met := m } q b).phase ≠ 6 ∧ (settledPr { p with met := m } q b).phase ≠ 7 ∧ atP (settledPr { p with met := m } q b) = atP p ∧ potP p ≤ potP (settledPr { p with met := m } q b) ∧ QInv c L.hist L.past.length L.procs.length i (settledPr { p with met := m } q b) := by
  have qi := h.q
  have htn := h.toNat
  obtain ⟨u, e1, e2, e3, e4, e5, e6⟩ := h.kid hf b hb
  have hun : (2 * p.node + b).toNat = u := by rw [e1]; simp
  have hlg := h.lg
  have e0 : ¬ (p.phase = 0 ∨ p.phase = 15 ∨ p.phase = 16 ∨ p.phase = 17 ∨ p.phase = 18) := by omega
  have hpp : potP p = 3 * Nat.log2 v := by unfold potP; rw [if_neg (by omega), if_neg (by omega), htn]
  have hap : atP p = v := by unfold atP; rw [if_neg e0, htn]
  unfold settledPr
  split
  · refine ⟨by simp, by simp, by simp, by simp, ?_, ?_, ?_⟩
    · rw [hap]
      unfold atP
      rw [if_pos (Or.inl rfl)]
      show (2 * p.node + b).toNat / 2 = v
      rw [hun]; exact e5
    · rw [hpp]
      simp only [potP, hun, e6]
      simp
      omega
    · exact ⟨by simp, qi.kind, fun a => absurd a (by simp), fun _ => ⟨u, e1, e2, e3, e4⟩, fun a b => absurd a (by simp), fun a b => absurd a (by simp), qi.slot, ⟨qi.wide.1, qi.wide.2.1, fun a b => absurd a (by simp)⟩, fun a => absurd a (by simp), qi.pat, qi.tick.1, qi.tick.2.1, fun a => absurd a (by simp)⟩
  · split
    · refine ⟨by simp, by simp, by simp, by simp, ?_, ?_, ?_⟩
      · rw [hap]
        unfold atP
        rw [if_neg (by simp)]
        exact htn
      · rw [hpp]
        simp [potP]
        omega
      · exact ⟨by simp, qi.kind, fun a => absurd a (by simp), fun _ => qi.live h.live, fun a b => absurd b (by simp), fun a b => absurd b (by simp), qi.slot, ⟨qi.wide.1, qi.wide.2.1, fun a b => absurd b (by simp)⟩, fun a => absurd a (by simp), qi.pat, qi.tick.1, qi.tick.2.1, fun a => absurd a (by simp)⟩
    · refine ⟨by simp, by simp, by simp, by simp, ?_, ?_, ?_⟩
      · rw [hap]
        unfold atP
        rw [if_neg (by simp)]
        exact htn
      · rw [hpp]
        simp [potP]
        omega
      · exact ⟨by simp, qi.kind, fun a => absurd a (by simp), fun _ => qi.live h.live, fun a b => absurd b (by simp), fun a b => absurd b (by simp), qi.slot, ⟨qi.wide.1, qi.wide.2.1, fun a b => absurd b (by simp)⟩, fun a => absurd a (by simp), qi.pat, qi.tick.1, qi.tick.2.1, fun a => absurd a (by simp)⟩

theorem settled_toPP (p q : Pr) (b m : Int) : toPP (settledPr { p with met := m } q b) = settlePP (toPP p) ⟨(toPP q).kind, (toPP q).oval, (toPP q).onode⟩ b := by
  unfold settledPr settlePP
  show toPP _ = _
  by_cases h1 : p.kind = q.kind
  · rw [if_pos (show p.kind = q.kind from h1), if_pos (show (toPP p).kind = (toPP q).kind from h1)]
    rfl
  · rw [if_neg (show ¬ p.kind = q.kind from h1), if_neg (show ¬ (toPP p).kind = (toPP q).kind from h1)]
    by_cases h2 : p.kind = 2
    · rw [if_pos (show p.kind = 2 from h2), if_pos (show (toPP p).kind = 2 from h2)]
      rfl
    · rw [if_neg (show ¬ p.kind = 2 from h2), if_neg (show ¬ (toPP p).kind = 2 from h2)]
      rfl

theorem Here.taken (h : Here c L P i v p n) (hph : p.phase = 7) {k : Nat} (hk : k < 4) (hs : p.slot = (k : Int)) (q : Pr) :
    WRel c (L.setP i (settledPr { p with met := -1 } q 0)) (P.foc v (n.setSlot k zeroSL) i (toPP (settledPr { p with met := -1 } q 0))) := by
  have hep := h.ep
  have hf := h.inner (by omega) (by omega)
  obtain ⟨hw, hm⟩ := h.mine (Or.inr hph) hk hs hf
  obtain ⟨a1, a2, a3, a4, a5, a6, a7⟩ := h.settledQ hf (by omega) (by omega) q 0 (Or.inl rfl) (-1)
  refine h.atSlot hf hk hs _ _ a5 a1 (fun u k' _ => nowait a3 a4 _ _) ?_ a6 a7 a2
  exact (h.slotRel hf hk).gone h.hi (by rw [hep]; exact hw) _ (nowait a3 a4 _ _)

/-- The one that i keeps in mind is met. -/
theorem Here.meet1 (h : Here c L P i v p n) (hph : p.phase = 8) {k : Nat} (hk : k < 4) (hs : p.slot = (k : Int)) (hm : meetsP (n.slot k) (toPP p)) :
    ∃ j, ∃ hj : j < L.procs.length, p.mind = (j : Int) ∧ j ≠ i ∧ (n.slot k).wh = (j : Int) ∧ meets L p (L.procs[j]).2 = true ∧ Here c (L.setP j { (L.procs[j]).2 with met := i }) (P.foc v (n.setSlot k ⟨2, (n.slot k).wh, i⟩) i (toPP p)) i v p (n.setSlot k ⟨2, (n.slot k).wh, i⟩) := by
  have hep := h.ep
  have hf := h.inner (by omega) (by omega)
  obtain ⟨m1, m2⟩ := hm
  have m2' : (n.slot k).wh = p.mind := m2
  have hsr := h.slotRel hf hk
  rcases hsr with ⟨h0, _⟩ | ⟨j, hj, a1, a2, a3, a4⟩
  · omega
  have a4' : (L.procs[j]).2.phase = 6 ∧ (L.procs[j]).2.met = -1 := by
    rcases a4 with ⟨_, b2, b3⟩ | ⟨b1, _⟩
    · exact ⟨b2, b3⟩
    · omega
  obtain ⟨b2, b3⟩ := a4'
  have hji : j ≠ i := by intro e; subst e; rw [hep] at b2; omega
  have hjv : (L.procs[j]).2.node = (v : Int) ∧ (L.procs[j]).2.slot = (k : Int) := by
    simp [waitP] at a2
    exact ⟨a2.1.1, a2.1.2⟩
  refine ⟨j, hj, by omega, hji, a1, ?_, ?_⟩
  · unfold meets
    rw [h.at', hs, waitsL_some _ _ _ _ j hj a2 a3, b2, b3]
    simp
    omega
  · have hH : Here c L P j v (L.procs[j]).2 n := ⟨h.rel, hj, rfl, h.en, h.rel.qs j hj, by omega, hjv.1, h.v1, h.vN, h.f3, h.nr⟩
    have q := hH.q
    have hw : WRel c (L.setP j { (L.procs[j]).2 with met := i }) (P.foc v (n.setSlot k ⟨2, (n.slot k).wh, i⟩) j (toPP { (L.procs[j]).2 with met := i })) := by
      refine hH.atSlot hf hk hjv.2 _ _ rfl hH.live ?_ ?_ (Nat.le_refl _) ?_ (by show (L.procs[j]).2.phase ≠ 13; omega)
      · intro u k' hne
        rcases hne with hne | hne
        · exact noplace (p := { (L.procs[j]).2 with met := i }) hjv.1 u k' hne
        · exact wait_else (p := { (L.procs[j]).2 with met := i }) hjv.2 u k' hne
      · refine Or.inr ⟨j, by simpa using hj, a1, ?_, ?_, Or.inr ⟨rfl, i, rfl, ?_, by simpa using h.hi, fun e => hji e.symm⟩⟩
        · simp only [List.getElem_set_self]
          exact a2
        · intro a ha' hwa
          have ha : a < L.procs.length := by simpa using ha'
          by_cases e : a = j
          · exact e
          · simp only [List.getElem_set_ne (Ne.symm e)] at hwa
            exact a3 a ha hwa
        · simp
      · exact ⟨q.phase, q.kind, q.done, q.live, q.inner, q.leaf, q.slot, q.wide, q.mind, q.pat, q.tick⟩
    have efoc : P.foc v (n.setSlot k ⟨2, (n.slot k).wh, i⟩) j (toPP { (L.procs[j]).2 with met := i }) = P.foc v (n.setSlot k ⟨2, (n.slot k).wh, i⟩) i (toPP p) := by
      have e1 : P.procs.set j (toPP { (L.procs[j]).2 with met := i }) = P.procs := by
        have hpl : j < P.procs.length := by rw [h.rel.procs, List.length_map]; exact hj
        have : toPP { (L.procs[j]).2 with met := i } = P.procs[j] := by simp [h.rel.procs, toPP]
        rw [this, List.set_getElem_self]
      have e2 : P.procs.set i (toPP p) = P.procs := by
        have hpl : i < P.procs.length := by rw [h.rel.procs, List.length_map]; exact h.hi
        have : toPP p = P.procs[i] := by
          have : P.procs[i] = toPP (L.procs[i]'h.hi).2 := by simp [h.rel.procs]
          rw [this, hep]
        rw [this, List.set_getElem_self]
      show ({ P with nodes := _, procs := _ } : PLay) = { P with nodes := _, procs := _ }
      rw [e1, e2]
    rw [efoc] at hw
    have hi' : i < (L.setP j { (L.procs[j]).2 with met := i }).procs.length := by simpa using h.hi
    have hep' : ((L.setP j { (L.procs[j]).2 with met := i }).procs[i]'hi').2 = p := by
      simp only [List.getElem_set_ne hji]
      exact hep
    have hq := hw.qs i hi'
    rw [hep'] at hq
    have hen : (P.foc v (n.setSlot k ⟨2, (n.slot k).wh, i⟩) i (toPP p)).nodes.getD v zeroPN = n.setSlot k ⟨2, (n.slot k).wh, i⟩ := by
      have := h.v32
      have hl := h.rel.plen
      simp [List.getD_eq_getElem?_getD, hl, this]
    have hn := hw.nodes v h.v1 h.vN
    rw [hen] at hn
    exact ⟨hw, hi', hep', hen, hq, h.live, h.at', h.v1, h.vN, h.f3, hn⟩

/-- Who settles a meeting at Meet goes down or out. -/
theorem Here.meet2 (h : Here c L P i v p n) (hph : p.phase = 8) (q : Pr) (m : Int) :
    WRel c (L.setP i (settledPr { p with met := m } q 1)) (P.foc v n i (toPP (settledPr { p with met := m } q 1))) := by
  have hf := h.inner (by omega) (by omega)
  obtain ⟨a1, a2, a3, a4, a5, a6, a7⟩ := h.settledQ hf (by omega) (by omega) q 1 (Or.inr rfl) m
  exact h.plain _ a5 a1 (fun k => nowait (by omega) (by omega) _ _) (fun u k => nowait a3 a4 _ _) a6 a7 (fun a => absurd a a2)

theorem Here.widen (h : Here c L P i v p n) (hph : p.phase = 9 ∨ p.phase = 10) (x : Value) (z : Int) (hz1 : 1 ≤ z) (hzc : z ≤ c.width) :
    WRel c ((L.hap v x ⟨5, z, 0, []⟩ (.slice none 0 0)).setP i { p with phase := 11 }) (P.foc v { n with width := z } i (toPP { p with phase := 11 })) := by
  have hep := h.ep
  have htn := h.toNat
  have q := h.q
  have hf := h.inner (by omega) (by omega)
  refine h.rel.move h.hi (moved_hap c L P i v h.vN x _ _ _ _) ?_
  rw [hep]
  have e0 : ¬ (p.phase = 0 ∨ p.phase = 15 ∨ p.phase = 16 ∨ p.phase = 17 ∨ p.phase = 18) := by omega
  have ha : atP { p with phase := 11 } = atP p := by unfold atP; rw [if_neg e0, if_neg (by simp)]
  have hin : ∀ w, holdsP w { p with phase := 11 } = holdsP w p := fun w => holds_at ha h.live (by simp)
  have hfm : formH ((⟨5, z, 0, []⟩, Value.slice none 0 0) :: L.hist v) = formH (L.hist v) := by simp [formH]
  refine ⟨h.v1, h.vN, hfm, by simp [fromH], by simp [putsH, fromH, manyH], ?_, h.at', h.live, fun w _ _ _ => hin w, fun w k _ => nowait (by simp) (by simp) _ _, ?_, ?_, h.isz, fun j hj _ _ _ h0 => ?_, fun a => absurd a (by simp)⟩
  · rw [totL_hap L i v h.vN]
    have hpp : potP p = 3 * Nat.log2 v := by unfold potP; rw [if_neg (by omega), if_neg (by omega), htn]
    rw [hpp]
    simp only [potP, htn]
    simp
    omega
  · have hins : insideL v ((L.hap v x ⟨5, z, 0, []⟩ (.slice none 0 0)).setP i { p with phase := 11 }).procs = insideL v L.procs := by
      have : insideL v ((L.hap v x ⟨5, z, 0, []⟩ (.slice none 0 0)).setP i { p with phase := 11 }).procs + (if holdsP v (L.procs[i]'h.hi).2 then 1 else 0) = insideL v L.procs + (if holdsP v { p with phase := 11 } then 1 else 0) := insideL_set v L.procs i h.hi _
      rw [hep, hin] at this
      omega
    obtain ⟨a1, a2, a3, a4, a5, a6⟩ := h.nr.inn hf
    refine ⟨by rw [hfm]; exact h.nr.form, by rw [hfm]; exact h.nr.there, fun _ => by rw [hins]; exact h.nr.inside h.f3, fun _ => ?_, fun h2 => by rw [hfm] at h2; omega⟩
    refine ⟨a1, ?_, by simp [widthH], hz1, hzc, fun k hk => (a6 k hk).keep h.hi _ (by rw [hep]; exact nowait (by omega) (by omega) _ _) (nowait (by simp) (by simp) _ _)⟩
    show n.toggle = _
    rw [a2]
    unfold togH
    simp [fromH, manyH]
  · refine (QInv.hist (H := L.hist) ?_ ?_ ?_)
    · exact ⟨by simp, q.kind, fun a => absurd a (by simp), fun _ => q.live h.live, fun _ _ => by show formH (L.hist p.node.toNat) = 1; rw [htn]; exact hf, fun a b => absurd a (by simp), q.slot, ⟨q.wide.1, q.wide.2.1, fun a b => absurd b (by simp)⟩, fun a => absurd a (by simp), q.pat, q.tick.1, q.tick.2.1, fun a => absurd a (by simp)⟩
    · intro u
      show formH ((L.hap v x ⟨5, z, 0, []⟩ (.slice none 0 0)).hist u) = _
      rw [hist_hap L v u x _ _ h.vN]
      split
      · rename_i e; rw [hfm, e]
      · rfl
    · intro u
      show _ ≤ putsH ((L.hap v x ⟨5, z, 0, []⟩ (.slice none 0 0)).hist u)
      rw [hist_hap L v u x _ _ h.vN]
      split
      · rename_i e; rw [e]; simp [putsH, fromH, manyH]
      · omega
  · simpa [takenH, itemH, manyH, fromH, laidH] using h0
end

section
variable {c : Conf} {L : Lay} {P : PLay} {i v : Nat} {p : Pr} {n : PN}

theorem Here.isLeaf (h : Here c L P i v p n) (h1 : 12 ≤ p.phase) (h2 : p.phase ≤ 14) : formH (L.hist v) = 2 := by
  have := h.q.leaf h1 h2
  rw [h.toNat] at this
  exact this

theorem Here.atLeaf (h : Here c L P i v p n) (hf : formH (L.hist v) = 2) (x : Value) (ev : Ev) (hev : 3 < ev.what) (p' : Pr) (n' : PN) (h12 : 12 ≤ p.phase) (h14 : p.phase ≤ 14) (ph : Int) (hph' : p'.phase = ph) (hphs : ph = 13 ∨ ph = 14 ∨ ph = 19) (hnode : p'.node = p.node)
    (hn1 : n'.there = n.there) (hn2 : n'.inner = n.inner) (_hn3 : n'.shut = n.shut) (hn4 : n'.inside = n.inside)
    (hp : n'.puts = putsH ((ev, .slice none 0 0) :: L.hist v)) (hg : n'.gets = (manyH 7 (-1) ((ev, .slice none 0 0) :: L.hist v) : Int)) (hir : ItemsRel c ((ev, .slice none 0 0) :: L.hist v) n'.items)
    (hpu : putsH (L.hist v) ≤ putsH ((ev, .slice none 0 0) :: L.hist v)) (hpot : p.phase = 12 ∨ ph = 19)
    (hk : p'.kind = p.kind) (hsl : p'.slot = p.slot) (hwd : p'.wide = p.wide) (hpt : p'.pat = p.pat) (htk : 0 ≤ p'.ticket ∧ p'.ticket ≤ 100000) (ht13 : ph = 13 → c.kind = 1 ∧ p'.ticket < putsH ((ev, .slice none 0 0) :: L.hist v))
    (hits : n'.items.length ≤ 10000)
    (oth : ∀ j, (hj : j < L.procs.length) → j ≠ i → (L.procs[j]).2.phase = 13 → (L.procs[j]).2.node = (v : Int) → takenH (L.hist v) (L.procs[j]).2.ticket = false ∧ itemH (L.hist v) (L.procs[j]).2.ticket = none → takenH ((ev, .slice none 0 0) :: L.hist v) (L.procs[j]).2.ticket = false ∧ itemH ((ev, .slice none 0 0) :: L.hist v) (L.procs[j]).2.ticket = none)
    (own : ph = 13 → (takenH ((ev, .slice none 0 0) :: L.hist v) p'.ticket = false ∧ itemH ((ev, .slice none 0 0) :: L.hist v) p'.ticket = none) ∧ ∀ j, (hj : j < L.procs.length) → j ≠ i → (L.procs[j]).2.phase = 13 → (L.procs[j]).2.node = p.node → (L.procs[j]).2.ticket ≠ p'.ticket) :
    WRel c ((L.hap v x ev (.slice none 0 0)).setP i p') (P.foc v n' i (toPP p')) := by
  have HO : Hid _ := oth
  have HW : Hid _ := own
  have HT : Hid _ := ht13
  clear oth own ht13
  have hep := h.ep
  have htn := h.toNat
  have q := h.q
  have hlg := h.lg
  have hHv : ((L.hap v x ev (.slice none 0 0)).setP i p').hist v = (ev, .slice none 0 0) :: L.hist v := by
    have := hist_hap L v v x ev (.slice none 0 0) h.vN
    rw [if_pos rfl] at this
    exact this
  refine h.rel.move h.hi (moved_hap c L P i v h.vN x _ _ _ _) ?_
  rw [hep]
  have e0 : ¬ (p.phase = 0 ∨ p.phase = 15 ∨ p.phase = 16 ∨ p.phase = 17 ∨ p.phase = 18) := by omega
  have e1 : ¬ (ph = 0 ∨ ph = 15 ∨ ph = 16 ∨ ph = 17 ∨ ph = 18) := by omega
  have ha : atP p' = atP p := by unfold atP; rw [hph', hnode, if_neg e0, if_neg e1]
  have hin : ∀ w, holdsP w p' = holdsP w p := fun w => holds_at ha h.live (by rw [hph']; omega)
  have hnw : ∀ u k : Int, waitP u k p' = false := fun u k => nowait (by rw [hph']; omega) (by rw [hph']; omega) _ _
  have hfm : formH ((ev, Value.slice none 0 0) :: L.hist v) = formH (L.hist v) := by rw [formH, if_neg (by show ¬ ev.what ≤ 3; omega)]
  have hfr : fromH ((ev, Value.slice none 0 0) :: L.hist v) = fromH (L.hist v) := by rw [fromH, if_neg (by show ¬ ev.what ≤ 3; omega)]
  refine ⟨h.v1, h.vN, hfm, by rw [hfr], hpu, ?_, h.at', h.live, fun w _ _ _ => hin w, fun w k _ => hnw _ _, ?_, ?_, hits, HO.out, fun a => ?_⟩
  · rw [totL_hap L i v h.vN]
    have hpp : potP p ≤ 3 * Nat.log2 v + 1 := by
      unfold potP
      rw [if_neg (by omega), htn]
      split <;> omega
    rcases hphs with e | e | e
    · have : potP p' = 3 * Nat.log2 v + 1 := by unfold potP; rw [hph', hnode, htn, if_neg (by omega), if_pos (by omega)]
      have : potP p = 3 * Nat.log2 v := by unfold potP; rw [if_neg (by omega), if_neg (by omega), htn]
      omega
    · have : potP p' = 3 * Nat.log2 v + 1 := by unfold potP; rw [hph', hnode, htn, if_neg (by omega), if_pos (by omega)]
      have : potP p = 3 * Nat.log2 v := by unfold potP; rw [if_neg (by omega), if_neg (by omega), htn]
      omega
    · have : potP p' = 20 := by unfold potP; rw [hph', if_pos (by omega)]
      omega
  · have hins : insideL v ((L.hap v x ev (.slice none 0 0)).setP i p').procs = insideL v L.procs := by
      have : insideL v ((L.hap v x ev (.slice none 0 0)).setP i p').procs + (if holdsP v (L.procs[i]'h.hi).2 then 1 else 0) = insideL v L.procs + (if holdsP v p' then 1 else 0) := insideL_set v L.procs i h.hi _
      rw [hep, hin] at this
      omega
    obtain ⟨a1, _⟩ := h.nr.leaf hf
    refine ⟨by rw [hfm]; exact h.nr.form, by rw [hfm, hn1]; exact h.nr.there, fun _ => by rw [hins, hn4]; exact h.nr.inside h.f3, fun h1 => by rw [hfm] at h1; omega, fun _ => ⟨by rw [hn2]; exact a1, hp, hg, hir⟩⟩
  · refine ⟨by rw [hph']; omega, by rw [hk]; exact q.kind, fun a => by rw [hph'] at a; omega, fun _ => ⟨v, by rw [hnode]; exact h.at', h.v1, h.vN, by rw [hHv, hfm]; exact h.f3⟩, fun a b => by rw [hph'] at a b; omega, fun _ _ => by rw [hnode, htn, hHv, hfm]; exact hf, by rw [hsl]; exact q.slot, ⟨by rw [hwd]; exact q.wide.1, by rw [hwd]; exact q.wide.2.1, fun a b => by rw [hph'] at a b; omega⟩, fun a => by rw [hph'] at a; omega, by rw [hpt]; exact q.pat, htk.1, htk.2, fun a => ?_⟩
    rw [hph'] at a
    rw [hnode, htn, hHv]
    exact HT.out a
  · rw [hph'] at a
    rw [hnode, htn, hHv]
    exact HW.out a

theorem Here.puts9 (h : Here c L P i v p n) : 0 ≤ putsH (L.hist v) ∧ putsH (L.hist v) ≤ 7000 := by
  have a1 := h.rel.fn v h.vN
  have a2 := h.rel.hlen v h.vN
  have a3 := manyH_le 6 (-1) (L.hist v)
  unfold putsH
  omega
theorem Here.gets9 (h : Here c L P i v p n) : manyH 7 (-1) (L.hist v) ≤ 6000 := by
  have a2 := h.rel.hlen v h.vN
  have a3 := manyH_le 7 (-1) (L.hist v)
  omega

theorem Here.inc12 (h : Here c L P i v p n) (hph : p.phase = 12) (hk : p.kind = 0) (x : Value) (vl : Int) :
    WRel c ((L.hap v x ⟨6, 0, 0, []⟩ (.slice none 0 0)).setP i { p with val := vl, phase := 19 }) (P.foc v { n with puts := n.puts + 1 } i (toPP { p with val := vl, phase := 19 })) := by
  have q := h.q
  have hf := h.isLeaf (by omega) (by omega)
  obtain ⟨_, b2, b3, b4⟩ := h.nr.leaf hf
  have hk0 : c.kind = 0 := by have := q.kind; omega
  refine h.atLeaf hf x _ (by simp) _ _ (by omega) (by omega) 19 rfl (by omega) rfl rfl rfl rfl rfl ?_ ?_ ?_ ?_ (Or.inl hph) rfl rfl rfl rfl ⟨q.tick.1, q.tick.2.1⟩ (fun a => absurd a (by simp)) h.isz (fun j hj _ _ _ h0 => ?_) (fun a => absurd a (by simp))
  · show n.puts + 1 = _
    rw [b2]; simp [putsH, fromH, manyH]; omega
  · show n.gets = _
    rw [b3]; simp [manyH]
  · exact ⟨fun a => by omega, b4.emp, fun t => by rw [← b4.it t]; simp [itemH, takenH, manyH, fromH, laidH], fun t => by rw [← b4.tk t]; simp [takenH, manyH]⟩
  · simp [putsH, fromH, manyH]; omega
  · simpa [takenH, itemH, manyH, fromH, laidH] using h0

theorem getD_snoc (l : List (Int × Int)) (t : Nat) : (l ++ [(0, 0)]).getD t (0, 0) = l.getD t (0, 0) := by
  simp only [List.getD_eq_getElem?_getD]
  by_cases h : t < l.length
  · rw [List.getElem?_append_left h]
  · rw [List.getElem?_append_right (by omega), List.getElem?_eq_none (by omega : l.length ≤ t)]
    by_cases e : t - l.length = 0
    · rw [e]; rfl
    · rw [List.getElem?_eq_none (by simp; omega)]

theorem Here.put12 (h : Here c L P i v p n) (hph : p.phase = 12) (hk : p.kind = 1) (x y : Value) :
    WRel c ((L.hap v x ⟨6, 0, 0, []⟩ (.slice none 0 0)).setP i { p with ticket := putsH (L.hist v), phase := 13 }) (P.foc v { n with puts := n.puts + 1, iv := y, items := n.items ++ [(0, 0)] } i (toPP { p with ticket := putsH (L.hist v), phase := 13 })) := by
  have q := h.q
  have hf := h.isLeaf (by omega) (by omega)
  obtain ⟨_, b2, b3, b4⟩ := h.nr.leaf hf
  have hk0 : c.kind = 1 := by have := q.kind; omega
  have hpp := h.puts9
  have hl := b4.len hk0
  have e6 : putsH ((⟨6, 0, 0, []⟩, Value.slice none 0 0) :: L.hist v) = putsH (L.hist v) + 1 := by simp [putsH, fromH, manyH]; omega
  have eit : ∀ t, itemH ((⟨6, 0, 0, []⟩, Value.slice none 0 0) :: L.hist v) t = itemH (L.hist v) t := fun t => by simp [itemH, takenH, manyH, fromH, laidH]
  have etk : ∀ t, takenH ((⟨6, 0, 0, []⟩, Value.slice none 0 0) :: L.hist v) t = takenH (L.hist v) t := fun t => by simp [takenH, manyH]
  have hnew : takenH (L.hist v) (putsH (L.hist v)) = false ∧ itemH (L.hist v) (putsH (L.hist v)) = none := by
    have eg : n.items.getD n.items.length (0, 0) = (0, 0) := by simp [List.getD_eq_getElem?_getD]
    constructor
    · rw [← hl, b4.tk, eg]; rfl
    · rw [← hl, b4.it, eg]; rfl
  refine h.atLeaf hf x _ (by simp) _ _ (by omega) (by omega) 13 rfl (by omega) rfl rfl rfl rfl rfl ?_ ?_ ?_ (by rw [e6]; omega) (Or.inl hph) rfl rfl rfl rfl ⟨hpp.1, by show putsH (L.hist v) ≤ 100000; omega⟩ (fun _ => ⟨hk0, by rw [e6]; show putsH (L.hist v) < _; omega⟩) ?_ (fun j hj _ _ _ h0 => ?_) (fun _ => ⟨?_, ?_⟩)
  · show n.puts + 1 = _
    rw [b2, e6]
  · show n.gets = _
    rw [b3]; simp [manyH]
  · refine ⟨fun _ => by rw [e6]; simp; omega, fun a => by omega, fun t => by rw [eit, getD_snoc]; exact b4.it t, fun t => by rw [etk, getD_snoc]; exact b4.tk t⟩
  · simp; omega
  · rw [eit, etk]; exact h0
  · rw [eit, etk]; exact hnew
  · intro j hj hne j13 jn
    have := ((h.rel.qs j hj).tick.2.2 j13).2
    rw [jn, h.toNat] at this
    show _ ≠ putsH (L.hist v)
    omega

theorem Here.get12 (h : Here c L P i v p n) (hph : p.phase = 12) (x : Value) :
    WRel c ((L.hap v x ⟨7, 0, 0, []⟩ (.slice none 0 0)).setP i { p with ticket := manyH 7 (-1) (L.hist v), phase := 14 }) (P.foc v { n with gets := n.gets + 1 } i (toPP { p with ticket := manyH 7 (-1) (L.hist v), phase := 14 })) := by
  have q := h.q
  have hf := h.isLeaf (by omega) (by omega)
  obtain ⟨_, b2, b3, b4⟩ := h.nr.leaf hf
  have hgg := h.gets9
  have e6 : putsH ((⟨7, 0, 0, []⟩, Value.slice none 0 0) :: L.hist v) = putsH (L.hist v) := by simp [putsH, fromH, manyH]
  have eit : ∀ t, itemH ((⟨7, 0, 0, []⟩, Value.slice none 0 0) :: L.hist v) t = itemH (L.hist v) t := fun t => by simp [itemH, takenH, manyH, fromH, laidH]
  have etk : ∀ t, takenH ((⟨7, 0, 0, []⟩, Value.slice none 0 0) :: L.hist v) t = takenH (L.hist v) t := fun t => by simp [takenH, manyH]
  refine h.atLeaf hf x _ (by simp) _ _ (by omega) (by omega) 14 rfl (by omega) rfl rfl rfl rfl rfl ?_ ?_ ?_ (by rw [e6]; omega) (Or.inl hph) rfl rfl rfl rfl ⟨by show (0 : Int) ≤ (manyH 7 (-1) (L.hist v) : Nat); omega, by show ((manyH 7 (-1) (L.hist v) : Nat) : Int) ≤ 100000; omega⟩ (fun a => absurd a (by simp)) h.isz (fun j hj _ _ _ h0 => ?_) (fun a => absurd a (by simp))
  · show n.puts = _
    rw [b2, e6]
  · show n.gets + 1 = _
    rw [b3]; simp [manyH]; omega
  · exact ⟨fun a => by rw [e6]; exact b4.len a, b4.emp, fun t => by rw [eit]; exact b4.it t, fun t => by rw [etk]; exact b4.tk t⟩
  · rw [eit, etk]; exact h0

theorem getD_set (l : List (Int × Int)) (t u : Nat) (y : Int × Int) (ht : t < l.length) : (l.set t y).getD u (0, 0) = if u = t then y else l.getD u (0, 0) := by
  simp only [List.getD_eq_getElem?_getD]
  by_cases e : u = t
  · subst e; rw [if_pos rfl, List.getElem?_set_self ht]; rfl
  · rw [if_neg e, List.getElem?_set_ne (Ne.symm e)]

theorem Here.store13 (h : Here c L P i v p n) (hph : p.phase = 13) (x : Value) (t : Nat) (ht : p.ticket = (t : Int)) :
    t < n.items.length ∧ WRel c ((L.hap v x ⟨8, p.ticket, p.oval, []⟩ (.slice none 0 0)).setP i { p with phase := 19 }) (P.foc v { n with items := n.items.set t (1, p.oval) } i (toPP { p with phase := 19 })) := by
  have q := h.q
  have hep := h.ep
  have hf := h.isLeaf (by omega) (by omega)
  obtain ⟨_, b2, b3, b4⟩ := h.nr.leaf hf
  obtain ⟨hk1, htp⟩ := q.tick.2.2 hph
  rw [h.toNat] at htp
  have hl := b4.len hk1
  have htl : t < n.items.length := by omega
  have h0 := h.rel.tk0 i h.hi (by rw [hep]; exact hph)
  rw [hep, h.toNat, ht] at h0
  have hlow : ¬ ((t : Int) < ((fromH (L.hist v)).1.items.length : Int)) := by
    intro hlt
    have := h0.2
    unfold itemH at this
    rw [if_neg (by rw [h0.1]; simp), if_pos hlt] at this
    simp at this
  have e6 : putsH ((⟨8, p.ticket, p.oval, []⟩, Value.slice none 0 0) :: L.hist v) = putsH (L.hist v) := by simp [putsH, fromH, manyH]
  have etk : ∀ u, takenH ((⟨8, p.ticket, p.oval, []⟩, Value.slice none 0 0) :: L.hist v) u = takenH (L.hist v) u := fun u => by simp [takenH, manyH]
  have eit : ∀ u : Int, u ≠ (t : Int) → itemH ((⟨8, p.ticket, p.oval, []⟩, Value.slice none 0 0) :: L.hist v) u = itemH (L.hist v) u := by
    intro u hu
    unfold itemH
    rw [etk]
    have : ¬ ((t : Int) = u) := fun e => hu e.symm
    simp [fromH, laidH, ht, this]
  have eself : itemH ((⟨8, p.ticket, p.oval, []⟩, Value.slice none 0 0) :: L.hist v) t = some p.oval := by
    unfold itemH
    rw [etk, if_neg (by rw [h0.1]; simp)]
    rw [show fromH ((⟨8, p.ticket, p.oval, []⟩, Value.slice none 0 0) :: L.hist v) = fromH (L.hist v) from by simp [fromH], if_neg hlow]
    simp [laidH, ht]
  refine ⟨htl, h.atLeaf hf x _ (by simp) _ _ (by omega) (by omega) 19 rfl (by omega) rfl rfl rfl rfl rfl ?_ ?_ ?_ (by rw [e6]; omega) (Or.inr rfl) rfl rfl rfl rfl ⟨q.tick.1, q.tick.2.1⟩ (fun a => absurd a (by simp)) (by simpa using h.isz) (fun j hj hne j13 jn h1 => ?_) (fun a => absurd a (by simp))⟩
  · show n.puts = _
    rw [b2, e6]
  · show n.gets = _
    rw [b3]; simp [manyH]
  · have h00 : (n.items.getD t (0, 0)).1 ≠ 2 := by
      have := b4.tk t
      rw [h0.1] at this
      simpa using this.symm
    refine ⟨fun a => by rw [e6]; simpa using b4.len a, fun a => by omega, fun u => ?_, fun u => ?_⟩
    · rw [getD_set _ _ _ _ htl]
      by_cases e : u = t
      · subst e; rw [if_pos rfl, eself]; rfl
      · rw [if_neg e, eit u (by omega)]; exact b4.it u
    · rw [getD_set _ _ _ _ htl, etk]
      by_cases e : u = t
      · subst e; rw [if_pos rfl, h0.1]; rfl
      · rw [if_neg e]; exact b4.tk u
  · rw [etk]
    refine ⟨h1.1, ?_⟩
    rw [eit _ (fun e => ?_)]
    · exact h1.2
    · exact hne (h.rel.uniq j i hj h.hi j13 (by rw [hep]; exact hph) (by rw [hep, jn, h.at']) (by rw [hep, ht]; exact e))

theorem Here.fetch14 (h : Here c L P i v p n) (hph : p.phase = 14) (x : Value) (t : Nat) (ht : p.ticket = (t : Int)) (htl : t < n.items.length) (h1 : (n.items[t]).1 = 1) :
    WRel c ((L.hap v x ⟨9, p.ticket, 0, []⟩ (.slice none 0 0)).setP i { p with val := (n.items[t]).2, phase := 19 }) (P.foc v { n with items := n.items.set t (2, 0) } i (toPP { p with val := (n.items[t]).2, phase := 19 })) := by
  have q := h.q
  have hep := h.ep
  have hf := h.isLeaf (by omega) (by omega)
  obtain ⟨_, b2, b3, b4⟩ := h.nr.leaf hf
  have hg : n.items.getD t (0, 0) = n.items[t] := by simp [List.getD_eq_getElem?_getD, List.getElem?_eq_getElem htl]
  have hk1 : c.kind = 1 := by
    rcases h.rel.confs.1 with a | a
    · have := b4.emp a; rw [this] at htl; simp at htl
    · exact a
  have hit := b4.it t
  rw [hg, if_pos h1] at hit
  have e6 : putsH ((⟨9, p.ticket, 0, []⟩, Value.slice none 0 0) :: L.hist v) = putsH (L.hist v) := by simp [putsH, fromH, manyH]
  have etk : ∀ u : Nat, takenH ((⟨9, p.ticket, 0, []⟩, Value.slice none 0 0) :: L.hist v) u = (decide (u = t) || takenH (L.hist v) u) := by
    intro u
    unfold takenH
    by_cases e : u = t
    · subst e; simp [manyH, ht]; omega
    · have : ¬ ((t : Int) = (u : Int)) := by omega
      have h2 : ¬ ((u : Int) < 0) := by omega
      simp [manyH, ht, e, this, h2]
  have eit : ∀ u : Nat, itemH ((⟨9, p.ticket, 0, []⟩, Value.slice none 0 0) :: L.hist v) u = if u = t then none else itemH (L.hist v) u := by
    intro u
    unfold itemH
    rw [etk]
    by_cases e : u = t
    · simp [e]
    · simp [e, fromH, laidH]
  refine h.atLeaf hf x _ (by simp) _ _ (by omega) (by omega) 19 rfl (by omega) rfl rfl rfl rfl rfl ?_ ?_ ?_ (by rw [e6]; omega) (Or.inr rfl) rfl rfl rfl rfl ⟨q.tick.1, q.tick.2.1⟩ (fun a => absurd a (by simp)) (by simpa using h.isz) (fun j hj hne j13 jn h2 => ?_) (fun a => absurd a (by simp))
  · show n.puts = _
    rw [b2, e6]
  · show n.gets = _
    rw [b3]; simp [manyH]
  · refine ⟨fun a => by rw [e6]; simpa using b4.len a, fun a => by omega, fun u => ?_, fun u => ?_⟩
    · rw [getD_set _ _ _ _ htl, eit]
      by_cases e : u = t
      · rw [if_pos e, if_pos e]; rfl
      · rw [if_neg e, if_neg e]; exact b4.it u
    · rw [getD_set _ _ _ _ htl, etk]
      by_cases e : u = t
      · rw [if_pos e]; simp [e]
      · rw [if_neg e]; simp [e]; exact b4.tk u
  · have jt := (h.rel.qs j hj).tick.1
    obtain ⟨w, hw⟩ := Int.eq_ofNat_of_zero_le jt
    rw [hw] at h2 ⊢
    have hwt : w ≠ t := by
      intro e
      rw [e, hit] at h2
      simp at h2
    rw [etk, eit, if_neg hwt]
    simp [hwt]
    exact h2
end

end Go.Proofs.YtjnmpejcegmkhaaGreatDoor
