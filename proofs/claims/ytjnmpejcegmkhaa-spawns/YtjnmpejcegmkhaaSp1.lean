/- A tree of the program and one of the document's answer, as long as nobody steps: they tell the same. No statement of the seat is proved here. -/
import Derived.Test.YtjnmpejcegmkhaaNew1
import Derived.Test.YtjnmpejcegmkhaaProgSpawn3
import Derived.Test.YtjnmpejcegmkhaaRefSpawn2
namespace Go.Proofs.Ytjnmpejcegmkhaa
open Go.RowKit

/-- A process that has taken no step. -/
def Fresh (p : Pr) : Prop := (p.phase = 0 ∨ p.phase = 15) ∧ p.node = 1 ∧ p.val = 0

structure SpRel (c : Conf) (L : Lay) (P : PLay) : Prop where
  may : mayC c = true
  cL : L.c = c
  cP : P.c = c
  len : L.past.length = 2 ^ (c.depth.toNat + 1)
  hist : ∀ u, 1 ≤ u → u < L.past.length → L.hist u = newHist c.start u
  hist0 : L.hist 0 = []
  nodes : ∀ v, 1 ≤ v → v < 32 → P.nodes.getD v zeroPN = newPN (2 ^ c.start.toNat) v
  plen : P.procs.length = L.procs.length
  np : L.procs.length ≤ 256
  full : (L.procs.length : Int) ≤ c.procs
  fresh : ∀ x ∈ L.procs, Fresh x.2
  same : ∀ i, (hi : i < L.procs.length) → (hj : i < P.procs.length) → (P.procs[i]).phase = (L.procs[i]).2.phase ∧ (P.procs[i]).node = (L.procs[i]).2.node ∧ (P.procs[i]).val = (L.procs[i]).2.val

theorem fresh_live {l : List (Nat × Pr)} (h : ∀ x ∈ l, Fresh x.2) : liveL l = l.length := by
  induction l with
  | nil => rfl
  | cons x l ih =>
    have hx := h x (by simp)
    have : x.2.phase ≠ 20 := by rcases hx.1 with e | e <;> omega
    simp only [liveL, this, if_false, List.length_cons, ih (fun y hy => h y (by simp [hy]))]
    omega

theorem fresh_shut {l : List (Nat × Pr)} (h : ∀ x ∈ l, Fresh x.2) (v : Int) : shutL v l = false := by
  induction l with
  | nil => rfl
  | cons x l ih =>
    have hx := h x (by simp)
    simp only [shutL, ih (fun y hy => h y (by simp [hy])), Bool.or_false]
    rcases hx.1 with e | e <;> simp [shutP, e]

theorem climb_zero (f v : Nat) : climb f 0 v = 0 := by cases f <;> simp [climb]

theorem fresh_inside {l : List (Nat × Pr)} (h : ∀ x ∈ l, Fresh x.2) (v : Nat) (hv : 1 ≤ v) : insideL v l = 0 := by
  induction l with
  | nil => rfl
  | cons x l ih =>
    have hx := h x (by simp)
    have ha : atP x.2 = 0 := by
      unfold atP
      rw [if_pos (by rcases hx.1 with e | e <;> simp [e]), hx.2.1]; rfl
    have : holdsP v x.2 = false := by
      simp only [holdsP, ha, climb_zero]
      have : ¬ (0 = v) := by omega
      simp [this]
    simp only [insideL, this, ih (fun y hy => h y (by simp [hy]))]
    rfl

theorem fresh_waits {l : List (Nat × Pr)} (h : ∀ x ∈ l, Fresh x.2) (v k : Int) (i : Nat) : waitsL v k l i = -1 := by
  induction l generalizing i with
  | nil => rfl
  | cons x l ih =>
    have hx := h x (by simp)
    have : waitP v k x.2 = false := by rcases hx.1 with e | e <;> simp [waitP, e]
    simp only [waitsL, this, Bool.false_eq_true, if_false]
    exact ih (fun y hy => h y (by simp [hy])) (i + 1)

theorem fresh_waitTo {l : List (Nat × Pr)} (h : ∀ x ∈ l, Fresh x.2) (v : Int) (k : Nat) : waitTo v l k = List.replicate k (-1) := by
  unfold waitTo
  rw [List.eq_replicate_iff]
  refine ⟨by simp, fun b hb => ?_⟩
  simp only [List.mem_map] at hb
  obtain ⟨j, _, rfl⟩ := hb
  exact fresh_waits h _ _ _

theorem pnodes_sp {c : Conf} {L : Lay} {P : PLay} (h : SpRel c L P) : pnodes P = (List.range 32).filterMap (newND c) := by
  have h' : PNew c { P with procs := [] } := ⟨h.cP, rfl, h.nodes⟩
  have := pnodes_new h'
  exact this

theorem rnodes_sp {c : Conf} {L : Lay} {P : PLay} (h : SpRel c L P) : rnodes L = (List.range 32).filterMap (newND c) := by
  have h' : NewLay c { L with procs := [] } := ⟨h.cL, rfl, h.len, h.hist, h.hist0⟩
  rw [← rnodes_new h' h.may]
  show rnodesTo L L.past.length = rnodesTo { L with procs := [] } L.past.length
  unfold rnodesTo
  refine filterMap_range_congr _ _ _ fun v hv => ?_
  by_cases h0 : v = 0
  · simp [h0]
  · have e : rnode L v = rnode { L with procs := [] } v := by
      unfold rnode
      rw [fresh_shut h.fresh, fresh_inside h.fresh v (by omega), fresh_waitTo h.fresh]
      rw [show ({ L with procs := [] } : Lay).hist v = L.hist v from rfl]
      simp only [shutL, insideL, waitTo_new]
    rw [e]
    rfl

theorem procV_sp {c : Conf} {L : Lay} {P : PLay} (h : SpRel c L P) (n : Int) : procV L n = pprocV P n := by
  unfold procV pprocV
  rw [h.plen]
  by_cases hn : 0 ≤ n ∧ n < L.procs.length
  · rw [if_pos hn, if_pos hn]
    have hi : n.toNat < L.procs.length := by omega
    have hj : n.toNat < P.procs.length := by rw [h.plen]; exact hi
    obtain ⟨a1, a2, a3⟩ := h.same n.toNat hi hj
    simp only [List.getD_eq_getElem?_getD, List.getElem?_eq_getElem hi, List.getElem?_eq_getElem hj, Option.getD_some]
    rw [a1, a2, a3]
  · rw [if_neg hn, if_neg hn]

theorem sp_ok {c : Conf} {L : Lay} {P : PLay} (h : SpRel c L P) : L.Ok := by
  have h' : NewLay c { L with procs := [] } := ⟨h.cL, rfl, h.len, h.hist, h.hist0⟩
  have o := newLay_ok h' h.may
  refine ⟨h.np, o.past, o.width0, o.width4, fun i hi => ?_, o.n0, o.n9, o.t9⟩
  have hf := h.fresh _ (List.getElem_mem hi)
  exact ⟨by rw [hf.2.1]; rfl, by rw [hf.2.1]; decide⟩

theorem sp_agree {c : Conf} {w : World} {B : Nat} {L : Lay} {P : PLay} (h : SpRel c L P) (hr : PRep w B P) : Agree w (.pointer (some ⟨P.tb, 0, none⟩)) L where
  nodes := fun W hW => by
    have hc : 1 ≤ c.width ∧ c.width ≤ 4 := by have := h.may; simp [mayC] at this; omega
    rw [rnodes_sp h, ← pnodes_sp h]
    refine pnodes_c (hr.below hW) (by rw [h.cP]; omega) (by rw [h.cP]; omega) ?_
    intro v h1 hv
    have := h.nodes v h1 (by rw [hr.len] at hv; exact hv)
    rw [List.getD_eq_getElem?_getD, List.getElem?_eq_getElem hv] at this
    simp only [Option.getD_some] at this
    rw [this]
    unfold newPN
    split
    · simp [innerPN]
    · split <;> simp [leafPN, zeroPN]
  proc := fun W hW p => by
    rw [procV_sp h]
    exact pproc_c (hr.below hW) p

theorem newPr_fresh (o : Op3) : Fresh (newPr o) := by
  unfold Fresh newPr
  simp only
  by_cases h : isChange o ∧ o.node = 1
  · simp [h]
  · simp [h]

theorem plive_sp {c : Conf} {L : Lay} {P : PLay} (h : SpRel c L P) : pliveL P.procs = L.procs.length := by
  have key : ∀ l : List PP, (∀ x ∈ l, x.phase ≠ 20) → pliveL l = l.length := by
    intro l hl
    induction l with
    | nil => rfl
    | cons x l ih =>
      have hx := hl x (by simp)
      simp only [pliveL, hx, if_false, List.length_cons, ih (fun y hy => hl y (by simp [hy]))]
      omega
  rw [key P.procs (fun x hx => ?_), h.plen]
  obtain ⟨i, hi, rfl⟩ := List.getElem_of_mem hx
  have hj : i < L.procs.length := by rw [← h.plen]; exact hi
  rw [(h.same i hj hi).1]
  rcases (h.fresh _ (List.getElem_mem hj)).1 with e | e <;> omega

theorem SpRel.push {c : Conf} {L : Lay} {P : PLay} (h : SpRel c L P) (o : Op3) (nb : Nat) (x y : Value) (hn : L.procs.length < 256) (hf : (L.procs.length : Int) < c.procs) :
    SpRel c { L with pv := x, procs := L.procs ++ [(nb, newPr o)] } { P with pv := y, procs := P.procs ++ [newPP o] } := by
  refine ⟨h.may, h.cL, h.cP, h.len, h.hist, h.hist0, h.nodes, by simp [h.plen], by simp; omega, by simp; omega, ?_, ?_⟩
  · intro z hz
    rcases List.mem_append.1 hz with hz | hz
    · exact h.fresh z hz
    · simp at hz; subst hz; exact newPr_fresh o
  · intro i hi' hj'
    have hi2 : i < L.procs.length + 1 := by simpa using hi'
    by_cases e : i < L.procs.length
    · have e' : i < P.procs.length := by rw [h.plen]; exact e
      simp only [List.getElem_append_left e, List.getElem_append_left e']
      exact h.same i e e'
    · have e1 : i = L.procs.length := by omega
      subst e1
      have e2 := h.plen
      simp only [List.getElem_append_right (Nat.le_refl _), List.getElem_append_right (Nat.le_of_eq e2), e2, Nat.sub_self, List.getElem_cons_zero]
      exact ⟨rfl, rfl, rfl⟩

end Go.Proofs.Ytjnmpejcegmkhaa
