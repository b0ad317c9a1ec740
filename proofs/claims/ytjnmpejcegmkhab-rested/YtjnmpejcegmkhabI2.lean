/- What one Step of the document's tree does: to the process that steps, to the others, to the nodes. No statement of the seat is proved here. A hand and the document's tree beside it, in no memory: the contract of package prismkeep's spawn, step, rest and play. No statement of the seat is proved here. A new hand. No statement of the seat is proved here. What is asked of a hand, of the document's tree beside it. No statement of the seat is proved here. Contracts of package prismkeep's begin. No statement of the seat is proved here. Two hands in one memory: what one does leaves the other as it was. No statement of the seat is proved here. The contract of package prismkeep's byHand: the rounds by steps are the rest's rounds. No statement of the seat is proved here. Contracts of package prismkeep's sameInts and sameNode, of what is alike. No statement of the seat is proved here. Contracts of package prismkeep's holds and slots. No statement of the seat is proved here. The contract of package prismkeep's sameBut. No statement of the seat is proved here. -/
import Derived.Test.YtjnmpejcegmkhabDBoth
import Derived.Test.YtjnmpejcegmkhabDRestA
import Derived.Test.YtjnmpejcegmkhabRefStA
import Derived.Test.YtjnmpejcegmkhabCInv
import Derived.Deep.QuietTactic
import Derived.BigQuiet
import Derived.Test.YtjnmpejcegmkhabRefB
import Derived.Deep.DeepCutAuto
namespace Go.Proofs.Ytjnmpejcegmkhab
open Go.RowKit
variable {Fr : Nat → Prop}

def toPPs (ps : Prs) : List PP := ps.map fun x => toPP x.2

/-- From phase a at node v to phase b at node nd. -/
def PM (v : Nat) (a b nd : Int) : Prop :=
  (a = 0 ∧ b = 1 ∧ nd = (v : Int)) ∨ (a = 1 ∧ nd = (v : Int) ∧ (b = 2 ∨ b = 3 ∨ b = 12 ∨ b = 19)) ∨ (a = 1 ∧ (b = 0 ∨ b = 15) ∧ nd / 2 = (v : Int)) ∨ (a = 2 ∧ b = 0 ∧ nd = (v : Int)) ∨ (a = 3 ∧ b = 4 ∧ nd = (v : Int)) ∨ (a = 4 ∧ nd = (v : Int) ∧ (b = 5 ∨ b = 8 ∨ b = 11)) ∨ (a = 5 ∧ nd = (v : Int) ∧ (b = 6 ∨ b = 9)) ∨ (a = 6 ∧ nd = (v : Int) ∧ (b = 7 ∨ b = 6 ∨ b = 10)) ∨ (b = 0 ∧ (a = 7 ∨ a = 8 ∨ a = 11) ∧ nd / 2 = (v : Int)) ∨ (b = 19 ∧ nd = (v : Int) ∧ (a = 7 ∨ a = 8)) ∨ (a = 8 ∧ b = 9 ∧ nd = (v : Int)) ∨ (b = 11 ∧ nd = (v : Int) ∧ (a = 9 ∨ a = 10)) ∨ (a = 12 ∧ nd = (v : Int) ∧ (b = 19 ∨ b = 13 ∨ b = 14)) ∨ (a = 13 ∧ nd = (v : Int) ∧ (b = 19 ∨ b = 13)) ∨ (a = 14 ∧ nd = (v : Int) ∧ (b = 19 ∨ b = 14)) ∨ (a = 15 ∧ b = 16 ∧ nd = (v : Int)) ∨ (a = 16 ∧ nd = (v : Int) ∧ (b = 17 ∨ b = 16 ∨ b = 18)) ∨ (b = 19 ∧ nd = (v : Int) / 2 ∧ (a = 15 ∨ a = 17 ∨ a = 18 ∨ a = 19) ∧ (v : Int) / 2 ≠ 0) ∨ (b = 20 ∧ nd = 0 ∧ (a = 15 ∨ a = 17 ∨ a = 18 ∨ a = 19) ∧ (v : Int) / 2 = 0)
theorem PM.enter {v : Nat} : PM v 0 1 v := Or.inl ⟨rfl, rfl, rfl⟩
theorem PM.look {v : Nat} (b : Int) (hb : b = 2 ∨ b = 3 ∨ b = 12 ∨ b = 19) : PM v 1 b v := Or.inr (Or.inl ⟨rfl, rfl, hb⟩)
theorem PM.lookDown {v : Nat} (b nd : Int) (hb : b = 0 ∨ b = 15) (hn : nd / 2 = v) : PM v 1 b nd := Or.inr (Or.inr (Or.inl ⟨rfl, hb, hn⟩))
theorem PM.back {v : Nat} : PM v 2 0 v := Or.inr (Or.inr (Or.inr (Or.inl ⟨rfl, rfl, rfl⟩)))
theorem PM.wide {v : Nat} : PM v 3 4 v := Or.inr (Or.inr (Or.inr (Or.inr (Or.inl ⟨rfl, rfl, rfl⟩))))
theorem PM.slot {v : Nat} (b : Int) (hb : b = 5 ∨ b = 8 ∨ b = 11) : PM v 4 b v := Or.inr (Or.inr (Or.inr (Or.inr (Or.inr (Or.inl ⟨rfl, rfl, hb⟩)))))
theorem PM.claim {v : Nat} (b : Int) (hb : b = 6 ∨ b = 9) : PM v 5 b v := Or.inr (Or.inr (Or.inr (Or.inr (Or.inr (Or.inr (Or.inl ⟨rfl, rfl, hb⟩))))))
theorem PM.wait {v : Nat} (b : Int) (hb : b = 7 ∨ b = 6 ∨ b = 10) : PM v 6 b v := Or.inr (Or.inr (Or.inr (Or.inr (Or.inr (Or.inr (Or.inr (Or.inl ⟨rfl, rfl, hb⟩)))))))
theorem PM.down {v : Nat} (a nd : Int) (ha : a = 7 ∨ a = 8 ∨ a = 11) (hn : nd / 2 = v) : PM v a 0 nd := Or.inr (Or.inr (Or.inr (Or.inr (Or.inr (Or.inr (Or.inr (Or.inr (Or.inl ⟨rfl, ha, hn⟩))))))))
theorem PM.out {v : Nat} (a : Int) (ha : a = 7 ∨ a = 8) : PM v a 19 v := Or.inr (Or.inr (Or.inr (Or.inr (Or.inr (Or.inr (Or.inr (Or.inr (Or.inr (Or.inl ⟨rfl, rfl, ha⟩)))))))))
theorem PM.grow {v : Nat} : PM v 8 9 v := Or.inr (Or.inr (Or.inr (Or.inr (Or.inr (Or.inr (Or.inr (Or.inr (Or.inr (Or.inr (Or.inl ⟨rfl, rfl, rfl⟩))))))))))
theorem PM.width {v : Nat} (a : Int) (ha : a = 9 ∨ a = 10) : PM v a 11 v := Or.inr (Or.inr (Or.inr (Or.inr (Or.inr (Or.inr (Or.inr (Or.inr (Or.inr (Or.inr (Or.inr (Or.inl ⟨rfl, rfl, ha⟩)))))))))))
theorem PM.ticket {v : Nat} (b : Int) (hb : b = 19 ∨ b = 13 ∨ b = 14) : PM v 12 b v := Or.inr (Or.inr (Or.inr (Or.inr (Or.inr (Or.inr (Or.inr (Or.inr (Or.inr (Or.inr (Or.inr (Or.inr (Or.inl ⟨rfl, rfl, hb⟩))))))))))))
theorem PM.store {v : Nat} (b : Int) (hb : b = 19 ∨ b = 13) : PM v 13 b v := Or.inr (Or.inr (Or.inr (Or.inr (Or.inr (Or.inr (Or.inr (Or.inr (Or.inr (Or.inr (Or.inr (Or.inr (Or.inr (Or.inl ⟨rfl, rfl, hb⟩)))))))))))))
theorem PM.fetch {v : Nat} (b : Int) (hb : b = 19 ∨ b = 14) : PM v 14 b v := Or.inr (Or.inr (Or.inr (Or.inr (Or.inr (Or.inr (Or.inr (Or.inr (Or.inr (Or.inr (Or.inr (Or.inr (Or.inr (Or.inr (Or.inl ⟨rfl, rfl, hb⟩))))))))))))))
theorem PM.shut {v : Nat} : PM v 15 16 v := Or.inr (Or.inr (Or.inr (Or.inr (Or.inr (Or.inr (Or.inr (Or.inr (Or.inr (Or.inr (Or.inr (Or.inr (Or.inr (Or.inr (Or.inr (Or.inl ⟨rfl, rfl, rfl⟩)))))))))))))))
theorem PM.drain {v : Nat} (b : Int) (hb : b = 17 ∨ b = 16 ∨ b = 18) : PM v 16 b v := Or.inr (Or.inr (Or.inr (Or.inr (Or.inr (Or.inr (Or.inr (Or.inr (Or.inr (Or.inr (Or.inr (Or.inr (Or.inr (Or.inr (Or.inr (Or.inr (Or.inl ⟨rfl, rfl, hb⟩))))))))))))))))
theorem PM.up {v : Nat} (a : Int) (ha : a = 15 ∨ a = 17 ∨ a = 18 ∨ a = 19) (hv : (v : Int) / 2 ≠ 0) : PM v a 19 ((v : Int) / 2) := Or.inr (Or.inr (Or.inr (Or.inr (Or.inr (Or.inr (Or.inr (Or.inr (Or.inr (Or.inr (Or.inr (Or.inr (Or.inr (Or.inr (Or.inr (Or.inr (Or.inr (Or.inl ⟨rfl, rfl, ha, hv⟩)))))))))))))))))
theorem PM.done {v : Nat} (a : Int) (ha : a = 15 ∨ a = 17 ∨ a = 18 ∨ a = 19) (hv : (v : Int) / 2 = 0) : PM v a 20 0 := Or.inr (Or.inr (Or.inr (Or.inr (Or.inr (Or.inr (Or.inr (Or.inr (Or.inr (Or.inr (Or.inr (Or.inr (Or.inr (Or.inr (Or.inr (Or.inr (Or.inr (Or.inr (⟨rfl, rfl, ha, hv⟩))))))))))))))))))
theorem PM.elim {v : Nat} {motive : ∀ a b nd, PM v a b nd → Prop} (enter : motive 0 1 v (PM.enter)) (look : ∀ (b : Int) (hb : b = 2 ∨ b = 3 ∨ b = 12 ∨ b = 19), motive 1 b v (PM.look b hb)) (lookDown : ∀ (b nd : Int) (hb : b = 0 ∨ b = 15) (hn : nd / 2 = v), motive 1 b nd (PM.lookDown b nd hb hn)) (back : motive 2 0 v (PM.back)) (wide : motive 3 4 v (PM.wide)) (slot : ∀ (b : Int) (hb : b = 5 ∨ b = 8 ∨ b = 11), motive 4 b v (PM.slot b hb)) (claim : ∀ (b : Int) (hb : b = 6 ∨ b = 9), motive 5 b v (PM.claim b hb)) (wait : ∀ (b : Int) (hb : b = 7 ∨ b = 6 ∨ b = 10), motive 6 b v (PM.wait b hb)) (down : ∀ (a nd : Int) (ha : a = 7 ∨ a = 8 ∨ a = 11) (hn : nd / 2 = v), motive a 0 nd (PM.down a nd ha hn)) (out : ∀ (a : Int) (ha : a = 7 ∨ a = 8), motive a 19 v (PM.out a ha)) (grow : motive 8 9 v (PM.grow)) (width : ∀ (a : Int) (ha : a = 9 ∨ a = 10), motive a 11 v (PM.width a ha)) (ticket : ∀ (b : Int) (hb : b = 19 ∨ b = 13 ∨ b = 14), motive 12 b v (PM.ticket b hb)) (store : ∀ (b : Int) (hb : b = 19 ∨ b = 13), motive 13 b v (PM.store b hb)) (fetch : ∀ (b : Int) (hb : b = 19 ∨ b = 14), motive 14 b v (PM.fetch b hb)) (shut : motive 15 16 v (PM.shut)) (drain : ∀ (b : Int) (hb : b = 17 ∨ b = 16 ∨ b = 18), motive 16 b v (PM.drain b hb)) (up : ∀ (a : Int) (ha : a = 15 ∨ a = 17 ∨ a = 18 ∨ a = 19) (hv : (v : Int) / 2 ≠ 0), motive a 19 ((v : Int) / 2) (PM.up a ha hv)) (done : ∀ (a : Int) (ha : a = 15 ∨ a = 17 ∨ a = 18 ∨ a = 19) (hv : (v : Int) / 2 = 0), motive a 20 0 (PM.done a ha hv)) {a b nd : Int} (h : PM v a b nd) : motive a b nd h := by
  rcases h with ⟨rfl, rfl, rfl⟩ | ⟨rfl, rfl, hb⟩ | ⟨rfl, hb, hn⟩ | ⟨rfl, rfl, rfl⟩ | ⟨rfl, rfl, rfl⟩ | ⟨rfl, rfl, hb⟩ | ⟨rfl, rfl, hb⟩ | ⟨rfl, rfl, hb⟩ | ⟨rfl, ha, hn⟩ | ⟨rfl, rfl, ha⟩ | ⟨rfl, rfl, rfl⟩ | ⟨rfl, rfl, ha⟩ | ⟨rfl, rfl, hb⟩ | ⟨rfl, rfl, hb⟩ | ⟨rfl, rfl, hb⟩ | ⟨rfl, rfl, rfl⟩ | ⟨rfl, rfl, hb⟩ | ⟨rfl, rfl, ha, hv⟩ | ⟨rfl, rfl, ha, hv⟩
  · exact enter
  · exact look _ hb
  · exact lookDown _ _ hb hn
  · exact back
  · exact wide
  · exact slot _ hb
  · exact claim _ hb
  · exact wait _ hb
  · exact down _ _ ha hn
  · exact out _ ha
  · exact grow
  · exact width _ ha
  · exact ticket _ hb
  · exact store _ hb
  · exact fetch _ hb
  · exact shut
  · exact drain _ hb
  · exact up _ ha hv
  · exact done _ ha hv
theorem PM.of {v : Nat} {a b nd a' b' nd' : Int} (h : PM v a b nd) (ea : a' = a) (eb : b' = b) (en : nd' = nd) : PM v a' b' nd' := by subst ea eb en; exact h

structure Went (L : Lay) (i v : Nat) (p p' : Pr) (L' : Lay) : Prop where
  procs : toPPs L'.procs = (toPPs L.procs).set i (toPP p')
  hist : ∀ u, u ≠ v → (p.phase = 17 → u ≠ 2 * v ∧ u ≠ 2 * v + 1) → L'.hist u = L.hist u
  past : L'.past.length = L.past.length
  c : L'.c = L.c
  op : p'.kind = p.kind ∧ p'.oval = p.oval ∧ p'.onode = p.onode
  pm : PM v p.phase p'.phase p'.node
  slot : (p.phase ≠ 3 ∧ p'.slot = p.slot) ∨ (0 ≤ p'.slot ∧ p'.slot < L.c.width)

theorem toPPs_setP (L : Lay) (i : Nat) (p : Pr) : toPPs (L.setP i p).procs = (toPPs L.procs).set i (toPP p) := by simp [toPPs, List.map_set]
section
variable {c : Conf} {L : Lay} {P : PLay} {i v : Nat} {p : Pr} {n : PN}

theorem went_set (q p' : Pr) (hop : p'.kind = p.kind ∧ p'.oval = p.oval ∧ p'.onode = p.onode) (hpm : PM v p.phase p'.phase p'.node) (hsl : (p.phase ≠ 3 ∧ p'.slot = p.slot) ∨ (0 ≤ p'.slot ∧ p'.slot < L.c.width)) : Went L i v p p' ((L.setP i q).setP i p') :=
  ⟨by rw [toPPs_setP, toPPs_setP, List.set_set], fun _ _ _ => rfl, rfl, rfl, hop, hpm, hsl⟩
theorem went_stay (p' : Pr) (hop : p'.kind = p.kind ∧ p'.oval = p.oval ∧ p'.onode = p.onode) (hpm : PM v p.phase p'.phase p'.node) (hsl : (p.phase ≠ 3 ∧ p'.slot = p.slot) ∨ (0 ≤ p'.slot ∧ p'.slot < L.c.width)) : Went L i v p p' (L.setP i p') :=
  ⟨toPPs_setP _ _ _, fun _ _ _ => rfl, rfl, rfl, hop, hpm, hsl⟩
theorem went_hap (hv : v < L.past.length) (q p' : Pr) (x : Value) (ev : Ev) (iv : Value) (hop : p'.kind = p.kind ∧ p'.oval = p.oval ∧ p'.onode = p.onode) (hpm : PM v p.phase p'.phase p'.node) (hsl : (p.phase ≠ 3 ∧ p'.slot = p.slot) ∨ (0 ≤ p'.slot ∧ p'.slot < L.c.width)) : Went L i v p p' (((L.setP i q).hap v x ev iv).setP i p') :=
  ⟨by rw [toPPs_setP]; show (toPPs (L.setP i q).procs).set i _ = _; rw [toPPs_setP, List.set_set], fun u hu _ => by
    have := hist_hap (L.setP i q) v u x ev iv hv
    rw [if_neg hu] at this
    exact this, by simp, rfl, hop, hpm, hsl⟩
theorem went_meet {j : Nat} (q p' y y' : Pr) (hj : j < L.procs.length) (hy : (L.procs[j]).2 = y) (hyy : toPP y' = toPP y) (hji : j ≠ i) (hop : p'.kind = p.kind ∧ p'.oval = p.oval ∧ p'.onode = p.onode) (hpm : PM v p.phase p'.phase p'.node) (hsl : (p.phase ≠ 3 ∧ p'.slot = p.slot) ∨ (0 ≤ p'.slot ∧ p'.slot < L.c.width)) : Went L i v p p' (((L.setP i q).setP j y').setP i p') := by
  refine ⟨?_, fun _ _ _ => rfl, rfl, rfl, hop, hpm, hsl⟩
  rw [toPPs_setP, toPPs_setP, toPPs_setP, hyy]
  have e : toPP y = (toPPs L.procs)[j]'(by simpa [toPPs] using hj) := by simp [toPPs, hy]
  rw [List.set_comm _ _ hji, List.set_set, List.set_comm _ _ (Ne.symm hji), e, List.set_getElem_self]

theorem Here.kidtw (h : Here c L P i v p n) (ck : CK c L P) (hph : p.phase = 1) (hk : ¬ p.kind < 3) : (((towards 6 p.onode.toNat v : Nat) : Int)) / 2 = (v : Int) := by
  have hq := ck.ci.cq i h.hi
  rw [h.ep] at hq
  obtain ⟨a1, a2, a3⟩ := hq.chg (by omega)
  have hcf := h.rel.confs
  have hlt : p.onode.toNat < 32 := by
    have : 2 ^ c.depth.toNat ≤ 2 ^ 4 := Nat.pow_le_pow_right (by omega) (by omega)
    omega
  have hab : above v p.onode.toNat := by
    rcases a3 with a3 | a3 | a3
    · rw [h.toNat] at a3
      exact a3.2
    · omega
    · omega
  have := (tw_facts ⟨p.onode.toNat, hlt⟩ ⟨v, h.v32⟩ h.v1 hab).2.2.1
  simp only at this
  omega

theorem ite_look (q : Prop) [Decidable q] : (if q then (3 : Int) else 12) = 2 ∨ (if q then (3 : Int) else 12) = 3 ∨ (if q then (3 : Int) else 12) = 12 ∨ (if q then (3 : Int) else 12) = 19 := by split <;> simp
theorem ite_down (q : Prop) [Decidable q] : (if q then (15 : Int) else 0) = 0 ∨ (if q then (15 : Int) else 0) = 15 := by split <;> simp

theorem settled_pm (q y : Pr) (b : Int) (hb : b = 0 ∨ b = 1) (hn : q.node = (v : Int)) (a : Int) (ha : a = 7 ∨ a = 8) : (settledPr q y b).kind = q.kind ∧ (settledPr q y b).oval = q.oval ∧ (settledPr q y b).onode = q.onode ∧ PM v a (settledPr q y b).phase (settledPr q y b).node ∧ (settledPr q y b).slot = q.slot := by
  unfold settledPr
  split
  · exact ⟨rfl, rfl, rfl, .down a _ (by omega) (by show (2 * q.node + b) / 2 = (v : Int); omega), rfl⟩
  · split
    · exact ⟨rfl, rfl, rfl, (PM.out a ha).of rfl rfl hn, rfl⟩
    · exact ⟨rfl, rfl, rfl, (PM.out a ha).of rfl rfl hn, rfl⟩

theorem up_pm (q : Pr) (hn : q.node = (v : Int)) (a : Int) (ha : a = 15 ∨ a = 17 ∨ a = 18 ∨ a = 19) : PM v a (upPr q).phase (upPr q).node := by
  unfold upPr
  simp only
  rw [hn]
  by_cases e : (v : Int) / 2 = 0
  · rw [if_pos e, e]; exact .done a ha e
  · rw [if_neg e]; exact .up a ha e

theorem Here.went (h : Here c L P i v p n) (ck : CK c L P) (draw : Int) : ∃ p', Went L i v p p' (lstep L i draw) := by
  have hv := h.vN
  have ha := h.at'
  have hph := h.q.phase
  have hlive := h.live
  rw [h.lat draw, h.lget]
  simp only
  have hcases : p.phase = 0 ∨ p.phase = 1 ∨ p.phase = 2 ∨ p.phase = 3 ∨ p.phase = 4 ∨ p.phase = 5 ∨ p.phase = 6 ∨ p.phase = 7 ∨ p.phase = 15 ∨ p.phase = 16 ∨ p.phase = 18 ∨ p.phase = 19 ∨ p.phase = 8 ∨ p.phase = 9 ∨ p.phase = 10 ∨ p.phase = 11 ∨ p.phase = 12 ∨ p.phase = 13 ∨ p.phase = 14 ∨ p.phase = 17 := by omega
  have hmv : p.phase ≠ 8 ∧ p.phase ≠ 9 ∧ p.phase ≠ 10 ∧ p.phase ≠ 11 ∧ p.phase ≠ 12 ∧ p.phase ≠ 13 ∧ p.phase ≠ 14 ∧ p.phase ≠ 17 → ((lmove (L.setP i (incPr p)) v (incPr p) draw).kind = p.kind ∧ (lmove (L.setP i (incPr p)) v (incPr p) draw).oval = p.oval ∧ (lmove (L.setP i (incPr p)) v (incPr p) draw).onode = p.onode) ∧ PM v p.phase (lmove (L.setP i (incPr p)) v (incPr p) draw).phase (lmove (L.setP i (incPr p)) v (incPr p) draw).node ∧ ((p.phase ≠ 3 ∧ (lmove (L.setP i (incPr p)) v (incPr p) draw).slot = p.slot) ∨ (0 ≤ (lmove (L.setP i (incPr p)) v (incPr p) draw).slot ∧ (lmove (L.setP i (incPr p)) v (incPr p) draw).slot < L.c.width)) := by
    intro hno
    unfold lmove
    have ein : (incPr p).phase = p.phase := rfl
    rw [ein]
    by_cases e0 : p.phase = 0
    · rw [if_pos e0]
      exact ⟨⟨rfl, rfl, rfl⟩, PM.enter.of e0 rfl ha, Or.inl ⟨by omega, rfl⟩⟩
    rw [if_neg e0]
    by_cases e1 : p.phase = 1
    · rw [if_pos e1]
      split
      · exact ⟨⟨rfl, rfl, rfl⟩, (PM.look 2 (by omega)).of e1 rfl ha, Or.inl ⟨by omega, rfl⟩⟩
      · split
        · exact ⟨⟨rfl, rfl, rfl⟩, (PM.look _ (ite_look _)).of e1 rfl ha, Or.inl ⟨by omega, rfl⟩⟩
        · rename_i hk3
          split
          · have hkd := h.kidtw ck e1 hk3
            exact ⟨⟨rfl, rfl, rfl⟩, (PM.lookDown (v := v) _ _ (ite_down _) hkd).of e1 rfl rfl, Or.inl ⟨by omega, rfl⟩⟩
          · exact ⟨⟨rfl, rfl, rfl⟩, (PM.look 19 (by omega)).of e1 rfl ha, Or.inl ⟨by omega, rfl⟩⟩
    rw [if_neg e1]
    by_cases e2 : p.phase = 2
    · rw [if_pos e2]
      exact ⟨⟨rfl, rfl, rfl⟩, PM.back.of e2 rfl ha, Or.inl ⟨by omega, rfl⟩⟩
    rw [if_neg e2]
    by_cases e3 : p.phase = 3
    · rw [if_pos e3]
      have hf := h.inner (by omega) (by omega)
      obtain ⟨_, _, hw1, hw2, hw3, _⟩ := h.nr.inn hf
      have hc := h.rel.cL
      have ew : widthH ((L.setP i (incPr p)).hist v) = widthH (L.hist v) := rfl
      refine ⟨⟨rfl, rfl, rfl⟩, PM.wide.of e3 rfl ha, Or.inr ⟨?_, ?_⟩⟩
      · exact Int.emod_nonneg _ (by rw [ew]; omega)
      · rw [hc]
        have := Int.emod_lt_of_pos draw (show 0 < widthH (L.hist v) by omega)
        show draw % widthH (L.hist v) < c.width
        omega
    rw [if_neg e3]
    by_cases e4 : p.phase = 4
    · rw [if_pos e4]
      split
      · exact ⟨⟨rfl, rfl, rfl⟩, (PM.slot 5 (by omega)).of e4 rfl ha, Or.inl ⟨by omega, rfl⟩⟩
      · rename_i hw
        obtain ⟨k, hk, hs⟩ := h.slotk
        have hf := h.inner (by omega) (by omega)
        have hwl := (h.inc.slotRel hf hk).waits
        have hsr := h.inc.slotRel hf hk
        have hlt : ∃ j : Nat, waitsL v (incPr p).slot (L.setP i (incPr p)).procs 0 = (j : Int) ∧ j < (L.setP i (incPr p)).procs.length := by
          have es : (incPr p).slot = (k : Int) := hs
          rw [es] at hw ⊢
          rcases hsr with ⟨s0, _⟩ | ⟨j, hj, a1, _, _, a4⟩
          · rcases hwl with ⟨_, x⟩ | ⟨x, _⟩
            · rw [x] at hw; omega
            · omega
          · rcases hwl with ⟨x, _⟩ | ⟨_, x⟩
            · rcases a4 with a4 | a4 <;> omega
            · exact ⟨j, by rw [x, a1], hj⟩
        obtain ⟨j, hj, hjl⟩ := hlt
        rw [hj, Int.toNat_natCast, List.getElem?_eq_getElem hjl]
        simp only
        split
        · exact ⟨⟨rfl, rfl, rfl⟩, (PM.slot 11 (by omega)).of e4 rfl ha, Or.inl ⟨by omega, rfl⟩⟩
        · exact ⟨⟨rfl, rfl, rfl⟩, (PM.slot 8 (by omega)).of e4 rfl ha, Or.inl ⟨by omega, rfl⟩⟩
    rw [if_neg e4]
    by_cases e5 : p.phase = 5
    · rw [if_pos e5]
      split
      · exact ⟨⟨rfl, rfl, rfl⟩, (PM.claim 6 (by omega)).of e5 rfl ha, Or.inl ⟨by omega, rfl⟩⟩
      · exact ⟨⟨rfl, rfl, rfl⟩, (PM.claim 9 (by omega)).of e5 rfl ha, Or.inl ⟨by omega, rfl⟩⟩
    rw [if_neg e5]
    by_cases e6 : p.phase = 6
    · rw [if_pos e6]
      unfold waitPr
      split
      · exact ⟨⟨rfl, rfl, rfl⟩, (PM.wait 7 (by omega)).of e6 rfl ha, Or.inl ⟨by omega, rfl⟩⟩
      · split
        · exact ⟨⟨rfl, rfl, rfl⟩, (PM.wait 6 (by omega)).of e6 e6 ha, Or.inl ⟨by omega, rfl⟩⟩
        · exact ⟨⟨rfl, rfl, rfl⟩, (PM.wait 10 (by omega)).of e6 rfl ha, Or.inl ⟨by omega, rfl⟩⟩
    rw [if_neg e6]
    by_cases e7 : p.phase = 7
    · rw [if_pos e7]
      have hf := h.inner (by omega) (by omega)
      obtain ⟨k, hk, hs⟩ := h.slotk
      obtain ⟨_, hm⟩ := h.mine (Or.inr e7) hk hs hf
      rcases hm with ⟨_, x, _⟩ | ⟨s2, b, by1, m2, hb, hbi⟩
      · omega
      have hb1 : b < (L.setP i (incPr p)).procs.length := by simpa using hb
      have em : (incPr p).met = (b : Int) := m2
      rw [em, Int.toNat_natCast, List.getElem?_eq_getElem hb1]
      simp only
      obtain ⟨x1, x2, x3, x4, x5⟩ := settled_pm (v := v) { incPr p with met := -1 } ((L.setP i (incPr p)).procs[b]).2 0 (Or.inl rfl) ha 7 (Or.inl rfl)
      exact ⟨⟨x1, x2, x3⟩, by rw [e7]; exact x4, Or.inl ⟨by omega, x5⟩⟩
    rw [if_neg e7]
    by_cases e15 : p.phase = 15
    · rw [if_pos e15]
      unfold shutCh
      split
      · exact ⟨⟨rfl, rfl, rfl⟩, up_pm _ (by exact ha) _ (by omega), Or.inl ⟨by omega, rfl⟩⟩
      · exact ⟨⟨rfl, rfl, rfl⟩, PM.shut.of e15 rfl ha, Or.inl ⟨by omega, rfl⟩⟩
    rw [if_neg e15]
    by_cases e16 : p.phase = 16
    · rw [if_pos e16]
      unfold drainCh
      split
      · exact ⟨⟨rfl, rfl, rfl⟩, (PM.drain 17 (by omega)).of e16 rfl ha, Or.inl ⟨by omega, rfl⟩⟩
      · split
        · exact ⟨⟨rfl, rfl, rfl⟩, (PM.drain 16 (by omega)).of e16 e16 ha, Or.inl ⟨by omega, rfl⟩⟩
        · exact ⟨⟨rfl, rfl, rfl⟩, (PM.drain 18 (by omega)).of e16 rfl ha, Or.inl ⟨by omega, rfl⟩⟩
    rw [if_neg e16]
    by_cases e18 : p.phase = 18
    · rw [if_pos e18]
      exact ⟨⟨rfl, rfl, rfl⟩, up_pm _ (by exact ha) _ (by omega), Or.inl ⟨by omega, rfl⟩⟩
    rw [if_neg e18]
    have e19 : p.phase = 19 := by omega
    rw [if_pos e19]
    exact ⟨⟨rfl, rfl, rfl⟩, up_pm _ (by exact ha) _ (by omega), Or.inl ⟨by omega, rfl⟩⟩
  by_cases e8 : p.phase = 8
  · rw [if_pos e8]
    obtain ⟨j, mj, hj, hji⟩ := h.q.mind e8
    rw [mj, Int.toNat_natCast, List.getElem?_eq_getElem hj]
    simp only
    split
    · obtain ⟨x1, x2, x3, x4, x5⟩ := settled_pm (v := v) (incPr p) (L.procs[j]).2 1 (Or.inr rfl) ha 8 (Or.inr rfl)
      exact ⟨_, went_meet _ _ (L.procs[j]).2 _ hj rfl rfl hji ⟨x1, x2, x3⟩ (by rw [e8]; exact x4) (Or.inl ⟨by omega, x5⟩)⟩
    · exact ⟨_, went_set _ _ ⟨rfl, rfl, rfl⟩ (PM.grow.of e8 rfl ha) (Or.inl ⟨by omega, rfl⟩)⟩
  rw [if_neg e8]
  by_cases e9 : p.phase = 9
  · rw [if_pos e9]
    exact ⟨_, went_hap hv _ _ _ _ _ ⟨rfl, rfl, rfl⟩ ((PM.width 9 (by omega)).of e9 rfl ha) (Or.inl ⟨by omega, rfl⟩)⟩
  rw [if_neg e9]
  by_cases e10 : p.phase = 10
  · rw [if_pos e10]
    exact ⟨_, went_hap hv _ _ _ _ _ ⟨rfl, rfl, rfl⟩ ((PM.width 10 (by omega)).of e10 rfl ha) (Or.inl ⟨by omega, rfl⟩)⟩
  rw [if_neg e10]
  by_cases e11 : p.phase = 11
  · rw [if_pos e11]
    refine ⟨_, went_hap hv _ _ _ _ _ ⟨rfl, rfl, rfl⟩ ?_ (Or.inl ⟨by omega, rfl⟩)⟩
    have ht : togH (L.hist v) = 0 ∨ togH (L.hist v) = 1 := by unfold togH; omega
    have hk : ∀ t : Int, t = 0 ∨ t = 1 → (2 * p.node + t) / 2 = (v : Int) := by intro t ht; omega
    have htt : (if p.kind = 2 then (togH (L.hist v) + 1) % 2 else togH (L.hist v)) = 0 ∨ (if p.kind = 2 then (togH (L.hist v) + 1) % 2 else togH (L.hist v)) = 1 := by split <;> omega
    exact (PM.down (v := v) 11 _ (by omega) (hk _ htt)).of e11 rfl rfl
  rw [if_neg e11]
  by_cases e12 : p.phase = 12
  · rw [if_pos e12]
    split
    · exact ⟨_, went_hap hv _ _ _ _ _ ⟨rfl, rfl, rfl⟩ ((PM.ticket 19 (by omega)).of e12 rfl ha) (Or.inl ⟨by omega, rfl⟩)⟩
    · split
      · exact ⟨_, went_hap hv _ _ _ _ _ ⟨rfl, rfl, rfl⟩ ((PM.ticket 13 (by omega)).of e12 rfl ha) (Or.inl ⟨by omega, rfl⟩)⟩
      · exact ⟨_, went_hap hv _ _ _ _ _ ⟨rfl, rfl, rfl⟩ ((PM.ticket 14 (by omega)).of e12 rfl ha) (Or.inl ⟨by omega, rfl⟩)⟩
  rw [if_neg e12]
  by_cases e13 : p.phase = 13
  · rw [if_pos e13]
    split
    · exact ⟨_, went_hap hv _ _ _ _ _ ⟨rfl, rfl, rfl⟩ ((PM.store 19 (by omega)).of e13 rfl ha) (Or.inl ⟨by omega, rfl⟩)⟩
    · exact ⟨_, went_stay _ ⟨rfl, rfl, rfl⟩ ((PM.store 13 (by omega)).of e13 e13 ha) (Or.inl ⟨by omega, rfl⟩)⟩
  rw [if_neg e13]
  by_cases e14 : p.phase = 14
  · rw [if_pos e14]
    split
    · exact ⟨_, went_hap hv _ _ _ _ _ ⟨rfl, rfl, rfl⟩ ((PM.fetch 19 (by omega)).of e14 rfl ha) (Or.inl ⟨by omega, rfl⟩)⟩
    · exact ⟨_, went_stay _ ⟨rfl, rfl, rfl⟩ ((PM.fetch 14 (by omega)).of e14 e14 ha) (Or.inl ⟨by omega, rfl⟩)⟩
  rw [if_neg e14]
  by_cases e17 : p.phase = 17
  · rw [if_pos e17]
    have hk : 2 * v + 1 < L.past.length := (h.target17 ck e17).kid
    split
    · refine ⟨upPr { incPr p with val := 1 }, by rw [toPPs_setP]; show (toPPs (L.setP i (incPr p)).procs).set i _ = _; rw [toPPs_setP, List.set_set], fun u hu hu2 => ?_, by simp, rfl, ⟨rfl, rfl, rfl⟩, up_pm { incPr p with val := 1 } (by exact ha) p.phase (by omega), Or.inl ⟨by omega, rfl⟩⟩
      obtain ⟨u1, u2⟩ := hu2 e17
      show ((L.setP i (incPr p)).unfolded v nilV nilV nilV nilV nilV).hist u = L.hist u
      unfold Lay.unfolded
      rw [hap_hist _ _ _ _ _ _ (by simp; omega) u2, hap_hist _ _ _ _ _ _ (by simp; omega) u1, hap_hist _ _ _ _ _ _ (by exact hv) hu]
      rfl
    · split
      · exact ⟨_, went_set _ _ ⟨rfl, rfl, rfl⟩ (up_pm _ (by exact ha) _ (by omega)) (Or.inl ⟨by omega, rfl⟩)⟩
      · refine ⟨upPr { incPr p with val := 1 }, by rw [toPPs_setP]; show (toPPs (L.setP i (incPr p)).procs).set i _ = _; rw [toPPs_setP, List.set_set], fun u hu hu2 => ?_, by simp, rfl, ⟨rfl, rfl, rfl⟩, up_pm { incPr p with val := 1 } (by exact ha) p.phase (by omega), Or.inl ⟨by omega, rfl⟩⟩
        obtain ⟨u1, u2⟩ := hu2 e17
        show ((L.setP i (incPr p)).folded v nilV nilV nilV nilV).hist u = L.hist u
        unfold Lay.folded
        rw [hap_hist _ _ _ _ _ _ (by simp; omega) (by assumption), hap_hist _ _ _ _ _ _ (by simp; omega) (by assumption), hap_hist _ _ _ _ _ _ (by simp; omega) (by assumption)]
        rfl
  rw [if_neg e17]
  obtain ⟨m1, m2, m3⟩ := hmv ⟨e8, e9, e10, e11, e12, e13, e14, e17⟩
  exact ⟨_, went_set _ _ m1 m2 m3⟩
end

theorem PM.behind {v : Nat} {a b nd : Int} (h : PM v a b nd) : amongTo b (behindL a) = true := by
  cases h using PM.elim with
  | enter => decide
  | look b hb => rcases hb with rfl | rfl | rfl | rfl <;> decide
  | lookDown b nd hb hn => rcases hb with rfl | rfl <;> decide
  | back => decide
  | wide => decide
  | slot b hb => rcases hb with rfl | rfl | rfl <;> decide
  | claim b hb => rcases hb with rfl | rfl <;> decide
  | wait b hb => rcases hb with rfl | rfl | rfl <;> decide
  | down a nd ha hn => rcases ha with rfl | rfl | rfl <;> decide
  | out a ha => rcases ha with rfl | rfl <;> decide
  | grow => decide
  | width a ha => rcases ha with rfl | rfl <;> decide
  | ticket b hb => rcases hb with rfl | rfl | rfl <;> decide
  | store b hb => rcases hb with rfl | rfl <;> decide
  | fetch b hb => rcases hb with rfl | rfl <;> decide
  | shut => decide
  | drain b hb => rcases hb with rfl | rfl | rfl <;> decide
  | up a ha hv => rcases ha with rfl | rfl | rfl | rfl <;> decide
  | done a ha hv => rcases ha with rfl | rfl | rfl | rfl <;> decide

end Go.Proofs.Ytjnmpejcegmkhab

namespace Go.Proofs.Ytjnmpejcegmkhab
open Go.RowKit
variable {Fr : Nat → Prop}

/-- The document's tree, what was begun, who has stepped. -/
structure Gh where
  L : Lay
  ops : List Op3
  went : List Bool

def phaseAt (L : Lay) (i : Nat) : Int := (L.procs.getD i (0, newPr ⟨0, 0, 0⟩)).2.phase
def gspawn (c : Conf) (S : Gh) (o : Op3) : Gh :=
  letI := okOpDec c o; if okOp c o ∧ S.L.procs.length < 256 ∧ (liveL S.L.procs : Int) < c.procs then ⟨{ S.L with procs := S.L.procs ++ [(0, newPr o)] }, S.ops ++ [o], S.went ++ [false]⟩ else S
def gstep (S : Gh) (p draw : Int) : Gh :=
  if 0 ≤ p ∧ p < S.L.procs.length ∧ phaseAt S.L p.toNat ≠ 20 then ⟨lstep S.L p.toNat draw, S.ops, S.went.set p.toNat true⟩ else S
def grest (S : Gh) (r draw : Int) : Gh :=
  if 0 ≤ r ∧ r ≤ 100 then ⟨lrest S.L (draw % 12) r.toNat, S.ops, if r = 0 then S.went else S.went.map fun _ => true⟩ else S
def wantK (k a b : Int) : Op3 :=
  if k = 1 then ⟨0, 0, 0⟩ else if k = 2 then ⟨1, a, 0⟩ else if k = 3 then ⟨2, 0, 0⟩ else if k = 4 then ⟨3, 0, a⟩ else if k = 5 then ⟨4, 0, a⟩ else ⟨a, b, b⟩
def gplay (c : Conf) (S : Gh) (k a b : Int) : Gh :=
  if k = 8 then gstep S a b else if k = 9 then grest S a b else if 1 ≤ k ∧ k ≤ 6 then gspawn c S (wantK k a b) else S

def ppOp (q : PP) : Op3 := ⟨q.kind, q.oval, q.onode⟩
def opsL (L : Lay) : List Op3 := (toPPs L.procs).map ppOp

/-- Who is about a slot is about one that there is. -/
def SlotOk (L : Lay) : Prop := ∀ i, (hi : i < L.procs.length) → 4 ≤ (L.procs[i]).2.phase → (L.procs[i]).2.phase ≤ 10 → 0 ≤ (L.procs[i]).2.slot ∧ (L.procs[i]).2.slot < L.c.width

/-- A process that has not stepped is as it was begun; each is of the operation that was begun. -/
structure OpsOf (S : Gh) : Prop where
  wlen : S.went.length = S.L.procs.length
  op : S.ops = opsL S.L
  slot : SlotOk S.L
  new : ∀ i, (hi : i < S.L.procs.length) → (hi' : i < S.went.length) → S.went[i] = false → (S.L.procs[i]).2.phase = (newPr ⟨(S.L.procs[i]).2.kind, (S.L.procs[i]).2.oval, (S.L.procs[i]).2.onode⟩).phase ∧ (S.L.procs[i]).2.node = 1 ∧ (S.L.procs[i]).2.val = 0

structure KSt (Fr : Nat → Prop) (w : World) (B hb : Nat) (c : Conf) (S : Gh) (P : PLay) : Prop where
  rep : KRep Fr w B hb P S.ops S.went
  rel : CRel c S.L P
  hB : B ≤ w.heap.size
  of : OpsOf S

theorem KSt.below {w w' : World} {B hb : Nat} {c : Conf} {S : Gh} {P : PLay} (h : KSt Fr w B hb c S P) (hb' : Below w.heap.size w w') : KSt Fr w' B hb c S P :=
  ⟨h.rep.below hb', h.rel, Nat.le_trans h.hB hb'.size, h.of⟩
theorem KSt.deep {w : World} {B hb : Nat} {c : Conf} {S : Gh} {P : PLay} (h : KSt Fr w B hb c S P) : 0 ≤ P.c.depth ∧ P.c.depth ≤ 4 := by
  have := h.rel.rel.confs
  rw [h.rel.rel.cP]
  omega
theorem KSt.told {w : World} {B hb : Nat} {c : Conf} {S : Gh} {P : PLay} (h : KSt Fr w B hb c S P) (i : Nat) (hi : i < S.L.procs.length) : toldP P i = ((S.L.procs[i]).2.phase, (S.L.procs[i]).2.node, (S.L.procs[i]).2.val) := by
  have hp := h.rel.plen
  unfold toldP
  rw [if_pos ⟨by omega, by omega⟩, Int.toNat_natCast]
  have e : P.procs.getD i zeroPP = toPP (S.L.procs[i]).2 := by
    rw [h.rel.rel.procs, List.getD_eq_getElem?_getD, List.getElem?_map, List.getElem?_eq_getElem hi]
    rfl
  rw [e]
  rfl

abbrev KT : List TypeId := [81, 101, 108, 51, 4, 41]

theorem hspawn_c {w : World} {B hb : Nat} {c : Conf} {S : Gh} {P : PLay} (h : KSt Fr w B hb c S P) (o : Op3) :
    Calls Try.prog 28 #[.pointer (some ⟨hb, 0, none⟩), opV o] w fun e w' => e = .returned (.bool true) ∧ (∃ P', KSt Fr w' B hb c (gspawn c S o) P') ∧ ChgT Fr B KT w w' := by
  obtain ⟨d0, d4⟩ := h.deep
  have lvP : pliveL P.procs = liveL S.L.procs := plive_w h.rel.rel
  have hpl := h.rel.plen
  have cP := h.rel.rel.cP
  unfold opV
  by_cases hok : okOp c o ∧ S.L.procs.length < 256 ∧ (liveL S.L.procs : Int) < c.procs
  · have okP : okOp P.c o := by rw [cP]; exact hok.1
    have hn : P.procs.length < 256 := by omega
    have hlv : (pliveL P.procs : Int) < P.c.procs := by rw [lvP, cP]; exact hok.2.2
    have hre : refusalK P ⟨o.kind, o.val, o.node⟩ = 0 := by
      unfold refusalK
      rw [if_neg (by simpa using okP), if_neg (by omega), if_neg (by omega)]
    refine (kspawn_ok h.rep h.hB o.kind o.val o.node d0 d4 hre hn (fun W hW hB => pspawn_yes hW hB o okP d0 d4 hn hlv)).mono ?_
    rintro e w' ⟨rfl, ⟨y, hk⟩, hc⟩
    refine ⟨rfl, ⟨{ P with pv := y, procs := P.procs ++ [newPP ⟨o.kind, o.val, o.node⟩] }, ?_⟩, hc.mono (Nat.le_refl _) (by simp)⟩
    have eg : gspawn c S o = ⟨{ S.L with procs := S.L.procs ++ [(0, newPr o)] }, S.ops ++ [o], S.went ++ [false]⟩ := by unfold gspawn; rw [if_pos hok]
    rw [eg]
    refine ⟨hk, ?_, Nat.le_trans h.hB hc.size, ?_⟩
    · exact h.rel.push o hok.1 0 S.L.pv y hok.2.1 hok.2.2
    · have ho := h.of
      refine ⟨by simp [ho.wlen], ?_, fun i hi h4 h10 => ?_, fun i hi hi' hw => ?_⟩
      · show S.ops ++ [o] = opsL { S.L with procs := S.L.procs ++ [(0, newPr o)] }
        rw [ho.op]
        simp [opsL, toPPs, ppOp, toPP, newPr]
      · simp only [List.length_append, List.length_cons, List.length_nil] at hi
        by_cases e : i < S.L.procs.length
        · simp only [List.getElem_append_left e] at h4 h10 ⊢
          exact ho.slot i e h4 h10
        · have e' : i = S.L.procs.length := by omega
          subst e'
          simp only [List.getElem_append_right (Nat.le_refl _), Nat.sub_self, List.getElem_cons_zero] at h4 h10
          rcases new_phase o with x | x <;> omega
      · simp only [List.length_append, List.length_cons, List.length_nil] at hi hi'
        by_cases e : i < S.L.procs.length
        · have e2 : i < S.went.length := by have := ho.wlen; omega
          simp only [List.getElem_append_left e] at hw ⊢
          rw [List.getElem_append_left e2] at hw
          exact ho.new i e e2 hw
        · have e' : i = S.L.procs.length := by omega
          subst e'
          simp only [List.getElem_append_right (Nat.le_refl _), Nat.sub_self, List.getElem_cons_zero]
          exact ⟨rfl, rfl, rfl⟩
  · have eg : gspawn c S o = S := by unfold gspawn; rw [if_neg hok]
    rw [eg]
    have fin : ∀ e0 : Int, e0 ≠ 0 → refusalK P ⟨o.kind, o.val, o.node⟩ = e0 → (∀ W, PRep Fr W B P → Calls Try.prog 49 #[.pointer (some ⟨P.tb, 0, none⟩), opV o] W fun x w' => x = .returned (.tuple #[I 0, I e0]) ∧ Below W.heap.size W w') →
        Calls Try.prog 28 #[.pointer (some ⟨hb, 0, none⟩), .agg #[I o.kind, I o.val, I o.node]] w fun e w' => e = .returned (.bool true) ∧ (∃ P', KSt Fr w' B hb c S P') ∧ ChgT Fr B KT w w' := by
      intro e0 h0 hre hs
      refine (kspawn_err h.rep o.kind o.val o.node d0 d4 e0 hre h0 hs).mono ?_
      rintro e w' ⟨rfl, hb'⟩
      exact ⟨rfl, ⟨P, h.below hb'⟩, ChgT.of_below hb'⟩
    by_cases h1 : okOp c o
    · have okP : okOp P.c o := by rw [cP]; exact h1
      by_cases h2 : S.L.procs.length < 256
      · have h3 : ¬ (liveL S.L.procs : Int) < c.procs := fun h3 => hok ⟨h1, h2, h3⟩
        have hlv : P.c.procs ≤ (pliveL P.procs : Int) := by rw [lvP, cP]; omega
        refine fin 4 (by omega) ?_ fun W hW => pspawn_err4 hW o okP d0 d4 (by omega) hlv
        unfold refusalK
        rw [if_neg (by simpa using okP), if_neg (by omega), if_pos hlv]
      · refine fin 3 (by omega) ?_ fun W hW => pspawn_err3 hW o okP d0 d4 (by have := h.rel.rel.np; omega)
        unfold refusalK
        rw [if_neg (by simpa using okP), if_pos (by omega)]
    · refine fin 2 (by omega) ?_ fun W hW => pspawn_err2 hW o (by rw [cP]; exact h1) d0 d4
      unfold refusalK
      rw [if_pos (by rw [cP]; exact h1)]

theorem opsL_went {L L' : Lay} {i v : Nat} {p p' : Pr} (h : Went L i v p p' L') (hi : i < L.procs.length) (hp : (L.procs[i]).2 = p) : opsL L' = opsL L := by
  unfold opsL
  rw [h.procs, List.map_set]
  have e : ppOp (toPP p') = ((toPPs L.procs).map ppOp)[i]'(by simpa [toPPs] using hi) := by
    simp only [List.getElem_map, toPPs, hp]
    obtain ⟨a, b, d⟩ := h.op
    simp [ppOp, toPP, a, b, d]
  rw [e, List.set_getElem_self]
theorem toPPs_len (ps : Prs) : (toPPs ps).length = ps.length := by simp [toPPs]
theorem toPPs_at (ps : Prs) (j : Nat) (hj : j < ps.length) (hj' : j < (toPPs ps).length) : (toPPs ps)[j] = toPP (ps[j]).2 := by simp [toPPs]
theorem went_other {L L' : Lay} {i v : Nat} {p p' : Pr} (h : Went L i v p p' L') (j : Nat) (hj : j < L.procs.length) (hj' : j < L'.procs.length) (hji : j ≠ i) : toPP (L'.procs[j]).2 = toPP (L.procs[j]).2 := by
  rw [← toPPs_at L'.procs j hj' (by rw [toPPs_len]; exact hj'), ← toPPs_at L.procs j hj (by rw [toPPs_len]; exact hj)]
  have : ∀ (l : List PP) (hl : l = (toPPs L.procs).set i (toPP p')) (h1 : j < l.length) (h2 : j < (toPPs L.procs).length), l[j] = (toPPs L.procs)[j] := by
    intro l hl h1 h2
    subst hl
    rw [List.getElem_set_ne (Ne.symm hji)]
  exact this _ h.procs _ _
theorem went_self {L L' : Lay} {i v : Nat} {p p' : Pr} (h : Went L i v p p' L') (hi' : i < L'.procs.length) : toPP (L'.procs[i]).2 = toPP p' := by
  rw [← toPPs_at L'.procs i hi' (by rw [toPPs_len]; exact hi')]
  have : ∀ (l : List PP) (hl : l = (toPPs L.procs).set i (toPP p')) (h1 : i < l.length), l[i] = toPP p' := by
    intro l hl h1
    subst hl
    rw [List.getElem_set_self]
  exact this _ h.procs _
theorem went_len {L L' : Lay} {i v : Nat} {p p' : Pr} (h : Went L i v p p' L') : L'.procs.length = L.procs.length := by
  have := congrArg List.length h.procs
  simpa [toPPs] using this
theorem pp_told {p q : Pr} (h : toPP p = toPP q) : p.kind = q.kind ∧ p.oval = q.oval ∧ p.onode = q.onode ∧ p.phase = q.phase ∧ p.node = q.node ∧ p.val = q.val ∧ p.slot = q.slot := by
  unfold toPP at h
  simp only [PP.mk.injEq] at h
  omega

theorem slot_went {L L' : Lay} {i v : Nat} {p p' : Pr} (h : Went L i v p p' L') (hi : i < L.procs.length) (hp : (L.procs[i]).2 = p) (hs : SlotOk L) : SlotOk L' := by
  intro j hj h4 h10
  have hl := went_len h
  by_cases e : j = i
  · subst e
    obtain ⟨_, _, _, x4, _, _, x7⟩ := pp_told (went_self h hj)
    rw [x4] at h4 h10
    rw [x7, h.c]
    rcases h.slot with ⟨n3, a⟩ | ⟨a, b⟩
    · rw [a]
      have hb : 4 ≤ p.phase ∧ p.phase ≤ 10 := by
        have hpm := h.pm
        generalize p.phase = x at *
        generalize p'.phase = y at *
        generalize p'.node = z at *
        cases hpm <;> omega
      have := hs j hi (by rw [hp]; exact hb.1) (by rw [hp]; exact hb.2)
      rw [hp] at this
      exact this
    · exact ⟨a, b⟩
  · obtain ⟨_, _, _, x4, _, _, x7⟩ := pp_told (went_other h j (by omega) hj e)
    rw [x4] at h4 h10
    rw [x7, h.c]
    exact hs j (by omega) h4 h10

theorem phaseAt_eq (L : Lay) (i : Nat) (hi : i < L.procs.length) : phaseAt L i = (L.procs[i]).2.phase := by
  unfold phaseAt
  rw [List.getD_eq_getElem?_getD, List.getElem?_eq_getElem hi]
  rfl

theorem hstep_c {w : World} {B hb : Nat} {c : Conf} {S : Gh} {P : PLay} (h : KSt Fr w B hb c S P) (p draw : Int) :
    Calls Try.prog 25 #[.pointer (some ⟨hb, 0, none⟩), I p, I draw] w fun e w' => e = .returned (.bool true) ∧ (∃ P', KSt Fr w' B hb c (gstep S p draw) P') ∧ ChgT Fr B KT w w' := by
  have hpl := h.rel.plen
  have same : gstep S p draw = S → (Calls Try.prog 25 #[.pointer (some ⟨hb, 0, none⟩), I p, I draw] w fun e w' => e = .returned (.bool true) ∧ Below w.heap.size w w') → Calls Try.prog 25 #[.pointer (some ⟨hb, 0, none⟩), I p, I draw] w fun e w' => e = .returned (.bool true) ∧ (∃ P', KSt Fr w' B hb c (gstep S p draw) P') ∧ ChgT Fr B KT w w' := by
    intro eg hc
    rw [eg]
    refine hc.mono ?_
    rintro e w' ⟨rfl, hb'⟩
    exact ⟨rfl, ⟨P, h.below hb'⟩, ChgT.of_below hb'⟩
  by_cases hin : 0 ≤ p ∧ p < S.L.procs.length
  · obtain ⟨i, rfl⟩ := Int.eq_ofNat_of_zero_le hin.1
    have hi : i < S.L.procs.length := by omega
    have hiP : i < P.procs.length := by omega
    have htd := h.told i hi
    by_cases h20 : (S.L.procs[i]).2.phase = 20
    · refine same ?_ (kstep_done h.rep i hiP (by rw [htd]; exact h20) draw fun W hW => ?_)
      · unfold gstep
        rw [if_neg]
        rintro ⟨_, _, x⟩
        rw [Int.toNat_natCast, phaseAt_eq S.L i hi] at x
        exact x h20
      · have hv0 : 0 < P.nodes.length := by rw [h.rel.rel.plen]; omega
        obtain ⟨g, hf⟩ := PF.start hW hv0 hiP
        refine pStep_done hf ?_ draw
        have : P.procs[i] = toPP (S.L.procs[i]).2 := by simp [h.rel.rel.procs]
        rw [this]
        exact h20
    · obtain ⟨v, n, hh⟩ := h.rel.rel.here hi h20
      obtain ⟨p', hwt⟩ := hh.went h.rel.ck draw
      obtain ⟨ph, hps, _, _⟩ := h.rel.next (Fr := Fr) (B := B) hi h20 draw
      have hlen' := went_len hwt
      have hph := hh.q.phase
      have eg : gstep S i draw = ⟨lstep S.L i draw, S.ops, S.went.set i true⟩ := by
        unfold gstep
        rw [if_pos ⟨hin.1, hin.2, by rw [Int.toNat_natCast, phaseAt_eq S.L i hi]; exact h20⟩, Int.toNat_natCast]
      have hF : ∀ P' : PLay, (P'.tb = P.tb ∧ CRel c (lstep S.L i draw) P') → P'.tb = P.tb ∧ P'.c = P.c ∧ P'.procs.length = P.procs.length ∧ (P'.procs.getD i zeroPP).phase = p'.phase := by
        rintro P' ⟨a, b⟩
        have hl' := b.plen
        refine ⟨a, by rw [b.rel.cP, h.rel.rel.cP], by omega, ?_⟩
        have e : P'.procs.getD i zeroPP = toPP ((lstep S.L i draw).procs[i]'(by omega)).2 := by
          rw [b.rel.procs, List.getD_eq_getElem?_getD, List.getElem?_map, List.getElem?_eq_getElem (by omega)]
          rfl
        rw [e, went_self hwt (by omega)]
        rfl
      have hsr := fun W (hW : PRep Fr W B P) (hBW : B ≤ W.heap.size) => pStep_ret (B := B) hiP (by rw [show P.procs[i] = toPP (S.L.procs[i]).2 by simp [h.rel.rel.procs]]; exact h20) draw (F := fun P' => P'.tb = P.tb ∧ CRel c (lstep S.L i draw) P') (fun P' hP' => ⟨(hF P' hP').1, (hF P' hP').2.2.1⟩) hps.1 hW hBW
      rw [eg]
      refine (kstep_run h.rep h.hB i hiP draw p'.phase (S.L.procs[i]).2.phase (by rw [htd]) hph.1 (by omega) hwt.pm.behind (fun P' => P'.tb = P.tb ∧ CRel c (lstep S.L i draw) P') ?_ ?_).mono ?_
      · intro P' hP'
        obtain ⟨a, b, d, e⟩ := hF P' hP'
        refine ⟨a, b, d, ?_⟩
        unfold toldP
        rw [if_pos ⟨by omega, by omega⟩, Int.toNat_natCast]
        exact e
      · intro W hW hBW
        refine (hsr W hW hBW).mono ?_
        rintro x w' ⟨⟨P', rfl, hP', hr⟩, hc⟩
        exact ⟨by rw [(hF P' hP').2.2.2], ⟨P', hP', hr⟩, hc⟩
      · rintro e w' ⟨rfl, ⟨P', hP', hr⟩, hc⟩
        refine ⟨rfl, ⟨P', hr, hP'.2, Nat.le_trans h.hB hc.size, ?_⟩, hc.mono (Nat.le_refl _) (by simp)⟩
        refine ⟨by simp only [List.length_set]; rw [hlen']; exact h.of.wlen, by show S.ops = opsL (lstep S.L i draw); rw [opsL_went hwt hi rfl]; exact h.of.op, slot_went hwt hi rfl h.of.slot, fun j hj hj' hw => ?_⟩
        simp only at hj hj' hw ⊢
        by_cases e : j = i
        · subst e
          rw [List.getElem_set_self] at hw
          exact absurd hw (by simp)
        · rw [List.getElem_set_ne (Ne.symm e)] at hw
          have hjL : j < S.L.procs.length := by omega
          obtain ⟨x1, x2, x3, x4, x5, x6, _⟩ := pp_told (went_other hwt j hjL hj e)
          have := h.of.new j hjL (by have := h.of.wlen; omega) hw
          rw [x1, x2, x3, x4, x5, x6]
          exact this
  · refine same ?_ (kstep_none h.rep p (by omega) draw)
    unfold gstep
    rw [if_neg]
    rintro ⟨x, y, _⟩
    exact hin ⟨x, y⟩

theorem CRel.again {c : Conf} {L : Lay} {P : PLay} (h : CRel c L P) {i : Nat} (hi : i < L.procs.length) (hl : (L.procs[i]).2.phase ≠ 20) (draw : Int) : (∃ P', CRel c (lstep L i draw) P') ∧ opsL (lstep L i draw) = opsL L ∧ (SlotOk L → SlotOk (lstep L i draw)) := by
  obtain ⟨v, n, hh⟩ := h.rel.here hi hl
  obtain ⟨p', hwt⟩ := hh.went h.ck draw
  obtain ⟨_, _, _, hP⟩ := h.next (Fr := fun _ => False) (B := 0) hi hl draw
  exact ⟨hP, opsL_went hwt hi rfl, slot_went hwt hi rfl⟩

theorem lround_keep {c : Conf} {L : Lay} {P : PLay} (h : CRel c L P) (d : Int) : ∀ k, k ≤ L.procs.length → (∃ P', CRel c (lroundTo L d k) P') ∧ opsL (lroundTo L d k) = opsL L ∧ (SlotOk L → SlotOk (lroundTo L d k))
  | 0, _ => ⟨⟨P, h⟩, rfl, id⟩
  | k + 1, hk => by
    obtain ⟨⟨P', h'⟩, e, es⟩ := lround_keep h d k (by omega)
    have hl : k < (lroundTo L d k).procs.length := by rw [lroundTo_len]; omega
    unfold lroundTo
    split
    · exact ⟨⟨P', h'⟩, e, es⟩
    · rename_i hne
      have hp : ((lroundTo L d k).procs[k]).2.phase ≠ 20 := by
        rw [List.getD_eq_getElem?_getD, List.getElem?_eq_getElem hl] at hne
        exact hne
      obtain ⟨x, y, z⟩ := h'.again hl hp (d + k)
      exact ⟨x, y.trans e, fun a => z (es a)⟩
theorem lrest_keep {c : Conf} {L : Lay} {P : PLay} (h : CRel c L P) (m : Int) : ∀ r, (∃ P', CRel c (lrest L m r) P') ∧ opsL (lrest L m r) = opsL L ∧ (SlotOk L → SlotOk (lrest L m r))
  | 0 => ⟨⟨P, h⟩, rfl, id⟩
  | r + 1 => by
    obtain ⟨⟨P', h'⟩, e, es⟩ := lrest_keep h m r
    unfold lrest
    obtain ⟨x, y, z⟩ := lround_keep h' (m + r) L.procs.length (by rw [lrest_len]; omega)
    exact ⟨x, y.trans e, fun a => z (es a)⟩

theorem hrest_c {w : World} {B hb : Nat} {c : Conf} {S : Gh} {P : PLay} (h : KSt Fr w B hb c S P) (a b : Int) :
    Calls Try.prog 26 #[.pointer (some ⟨hb, 0, none⟩), I a, I b] w fun e w' => e = .returned (.bool true) ∧ (∃ P', KSt Fr w' B hb c (grest S a b) P') ∧ ChgT Fr B KT w w' := by
  by_cases ha : 0 ≤ a ∧ a ≤ 100
  · obtain ⟨r, rfl⟩ := Int.eq_ofNat_of_zero_le ha.1
    have hpl := h.rel.plen
    have eg : grest S r b = ⟨lrest S.L (b % 12) r, S.ops, if (r : Int) = 0 then S.went else S.went.map fun _ => true⟩ := by
      unfold grest
      rw [if_pos ha, Int.toNat_natCast]
    rw [eg]
    refine (krest_run h.rep h.hB r (by omega) b (liveL (lrest S.L (b % 12) r).procs) (fun P' => P'.tb = P.tb ∧ CRel c (lrest S.L (b % 12) r) P') ?_ ?_).mono ?_
    · rintro P' ⟨x, y⟩
      refine ⟨x, by rw [y.rel.cP, h.rel.rel.cP], ?_, plive_w y.rel⟩
      have := y.plen
      rw [lrest_len] at this
      omega
    · intro W hW hBW
      refine (prest_ok h.rel hW hBW r (by omega) b).mono ?_
      rintro x w' ⟨rfl, ⟨P', a1, a2, a3⟩, hc⟩
      exact ⟨rfl, ⟨P', ⟨a1, a2⟩, a3⟩, hc⟩
    · rintro e w' ⟨rfl, ⟨P', hP', hr⟩, hc⟩
      refine ⟨rfl, ⟨P', hr, hP'.2, Nat.le_trans h.hB hc.size, ?_⟩, hc.mono (Nat.le_refl _) (by simp)⟩
      refine ⟨?_, ?_, (lrest_keep h.rel (b % 12) r).2.2 h.of.slot, fun j hj hj' hw => ?_⟩
      · show (if (r : Int) = 0 then S.went else S.went.map fun _ => true).length = (lrest S.L (b % 12) r).procs.length
        rw [lrest_len]
        split
        · exact h.of.wlen
        · rw [List.length_map]; exact h.of.wlen
      · show S.ops = opsL (lrest S.L (b % 12) r)
        rw [(lrest_keep h.rel (b % 12) r).2.1]
        exact h.of.op
      · simp only at hj hj' hw ⊢
        by_cases e : (r : Int) = 0
        · have e' : r = 0 := by omega
          subst e'
          simp only [if_pos e] at hj' hw
          exact h.of.new j hj hj' hw
        · simp only [if_neg e] at hj' hw
          simp at hw
  · have eg : grest S a b = S := by unfold grest; rw [if_neg ha]
    rw [eg]
    refine (krest_bad h.rep a b (by omega) (fun W => prest_err P.tb a b (by omega))).mono ?_
    rintro e w' ⟨rfl, hb'⟩
    exact ⟨rfl, ⟨P, h.below hb'⟩, ChgT.of_below hb'⟩

theorem kwanted_c (k a b : Int) (hk : k = 1 ∨ k = 2 ∨ k = 3 ∨ k = 4 ∨ k = 5 ∨ k = 6) (w : World) : Calls Try.prog 27 #[.agg #[I k, I a, I b]] w fun e w' => e = .returned (.tuple #[opV (wantK k a b), .bool true]) ∧ Below w.heap.size w w' := by
  unfold opV
  rcases hk with rfl | rfl | rfl | rfl | rfl | rfl
  · have e1 : wantK 1 a b = ⟨0, 0, 0⟩ := rfl
    rw [e1]
    clear e1
    go_enter Try.func27, Try.ntmps27
    go_wp2
    exact bodyPost_ret (v := .tuple #[.agg #[I 0, I 0, I 0], .bool true]) (by simp [results, Try.results27, go_sem]) rfl ⟨rfl, ((Below.refl _ _).alloc (Nat.le_refl _) _).alloc (by simp) _⟩
  · have e1 : wantK 2 a b = ⟨1, a, 0⟩ := rfl
    rw [e1]
    clear e1
    go_enter Try.func27, Try.ntmps27
    go_wp2
    exact bodyPost_ret (v := .tuple #[.agg #[I 1, I a, I 0], .bool true]) (by simp [results, Try.results27, go_sem]) rfl ⟨rfl, ((Below.refl _ _).alloc (Nat.le_refl _) _).alloc (by simp) _⟩
  · have e1 : wantK 3 a b = ⟨2, 0, 0⟩ := rfl
    rw [e1]
    clear e1
    go_enter Try.func27, Try.ntmps27
    go_wp2
    exact bodyPost_ret (v := .tuple #[.agg #[I 2, I 0, I 0], .bool true]) (by simp [results, Try.results27, go_sem]) rfl ⟨rfl, ((Below.refl _ _).alloc (Nat.le_refl _) _).alloc (by simp) _⟩
  · have e1 : wantK 4 a b = ⟨3, 0, a⟩ := rfl
    rw [e1]
    clear e1
    go_enter Try.func27, Try.ntmps27
    go_wp2
    exact bodyPost_ret (v := .tuple #[.agg #[I 3, I 0, I a], .bool true]) (by simp [results, Try.results27, go_sem]) rfl ⟨rfl, ((Below.refl _ _).alloc (Nat.le_refl _) _).alloc (by simp) _⟩
  · have e1 : wantK 5 a b = ⟨4, 0, a⟩ := rfl
    rw [e1]
    clear e1
    go_enter Try.func27, Try.ntmps27
    go_wp2
    exact bodyPost_ret (v := .tuple #[.agg #[I 4, I 0, I a], .bool true]) (by simp [results, Try.results27, go_sem]) rfl ⟨rfl, ((Below.refl _ _).alloc (Nat.le_refl _) _).alloc (by simp) _⟩
  · have e1 : wantK 6 a b = ⟨a, b, b⟩ := rfl
    rw [e1]
    clear e1
    go_enter Try.func27, Try.ntmps27
    go_wp2
    exact bodyPost_ret (v := .tuple #[.agg #[I a, I b, I b], .bool true]) (by simp [results, Try.results27, go_sem]) rfl ⟨rfl, ((Below.refl _ _).alloc (Nat.le_refl _) _).alloc (by simp) _⟩

theorem kwanted_no (k a b : Int) (hk : ¬ (1 ≤ k ∧ k ≤ 6)) (w : World) : Calls Try.prog 27 #[.agg #[I k, I a, I b]] w fun e w' => e = .returned (.tuple #[.agg #[I 0, I 0, I 0], .bool false]) ∧ Below w.heap.size w w' := by
  have b1 : (k == 1) = false := by simp; omega
  have b2 : (k == 2) = false := by simp; omega
  have b3 : (k == 3) = false := by simp; omega
  have b4 : (k == 4) = false := by simp; omega
  have b5 : (k == 5) = false := by simp; omega
  have b6 : (k == 6) = false := by simp; omega
  clear hk
  go_enter Try.func27, Try.ntmps27
  go_wp2
  exact bodyPost_ret (v := .tuple #[.agg #[I 0, I 0, I 0], .bool false]) (by simp [results, Try.results27, go_sem]) rfl ⟨rfl, ((Below.refl _ _).alloc (Nat.le_refl _) _).alloc (by simp) _⟩

set_option maxHeartbeats 4000000 in
theorem hplay_c {w : World} {B hb : Nat} {c : Conf} {S : Gh} {P : PLay} (h : KSt Fr w B hb c S P) (k a b : Int) :
    Calls Try.prog 8 #[.pointer (some ⟨hb, 0, none⟩), .agg #[I k, I a, I b]] w fun e w' => e = .returned (.bool true) ∧ (∃ P', KSt Fr w' B hb c (gplay c S k a b) P') ∧ ChgT Fr B KT w w' := by
  have hba : Below w.heap.size w (w.alloc (.cells #[I k, I a, I b] 31)) := (Below.refl _ _).alloc (Nat.le_refl _) _
  have noa : (w.alloc (.cells #[I k, I a, I b] 31)).heap[w.heap.size]? = some (.cells #[I k, I a, I b] 31 (0, 0)) := nb_alloc _ _ _
  by_cases h8 : k = 8
  · subst h8
    have hs := hstep_c (h.below hba) a b
    have eg : gplay c S 8 a b = gstep S a b := by unfold gplay; rw [if_pos rfl]
    rw [eg]
    replace hs : Hid _ := hs
    replace h : Hid _ := h
    clear eg
    go_enter Try.func8, Try.ntmps8
    go_wp2_with fail
    refine Calls.mono hs.out ?_
    rintro e w1 ⟨rfl, hP, hc⟩
    go_wp2
    go_ret
    exact ⟨rfl, hP, (ChgT.of_below hba).trans hc⟩
  · by_cases h9 : k = 9
    · subst h9
      have hs := hrest_c (h.below hba) a b
      have eg : gplay c S 9 a b = grest S a b := by unfold gplay; rw [if_neg (by decide), if_pos rfl]
      rw [eg]
      replace hs : Hid _ := hs
      replace h : Hid _ := h
      clear eg
      go_enter Try.func8, Try.ntmps8
      go_wp2_with fail
      refine Calls.mono hs.out ?_
      rintro e w1 ⟨rfl, hP, hc⟩
      go_wp2
      go_ret
      exact ⟨rfl, hP, (ChgT.of_below hba).trans hc⟩
    · have b8 : (k == 8) = false := by simp [h8]
      have b9 : (k == 9) = false := by simp [h9]
      by_cases hk : 1 ≤ k ∧ k ≤ 6
      · have eg : gplay c S k a b = gspawn c S (wantK k a b) := by unfold gplay; rw [if_neg h8, if_neg h9, if_pos hk]
        rw [eg]
        have hw := fun W => kwanted_c k a b (by omega) W
        have hs := fun W (hW : Below w.heap.size w W) => hspawn_c (h.below hW) (wantK k a b)
        unfold opV at hw hs
        generalize gspawn c S (wantK k a b) = S' at *
        generalize wantK k a b = o at *
        obtain ⟨o1, o2, o3⟩ := o
        simp only at hw hs
        replace hs : Hid _ := hs
        replace hw : Hid _ := hw
        replace h : Hid _ := h
        clear eg h8 h9 hk
        go_enter Try.func8, Try.ntmps8
        go_wp2_with fail
        refine Calls.mono (hw.out _) ?_
        rintro e w1 ⟨rfl, hb1⟩
        have hb2 := hba.trans (hb1.mono (by simp))
        have HS := hs.out (w1.alloc (.cells #[I o1, I o2, I o3] 51)) (hb2.alloc hb2.size _)
        replace HS : Hid _ := HS
        clear hb1 hw
        go_wp2_with fail
        refine Calls.mono HS.out ?_
        rintro e w2 ⟨rfl, hP, hc⟩
        go_wp2
        go_ret
        exact ⟨rfl, hP, (ChgT.of_below (hb2.alloc hb2.size _)).trans hc⟩
      · have eg : gplay c S k a b = S := by unfold gplay; rw [if_neg h8, if_neg h9, if_neg hk]
        rw [eg]
        have hw := fun W => kwanted_no k a b hk W
        replace hw : Hid _ := hw
        replace h : Hid _ := h
        clear eg h8 h9 hk
        go_enter Try.func8, Try.ntmps8
        go_wp2_with fail
        refine Calls.mono (hw.out _) ?_
        rintro e w1 ⟨rfl, hb1⟩
        have hb2 := hba.trans (hb1.mono (by simp))
        clear hb1 hw
        go_wp2
        go_ret
        exact ⟨rfl, ⟨P, h.out.below (hb2.alloc hb2.size _)⟩, ChgT.of_below (hb2.alloc hb2.size _)⟩

end Go.Proofs.Ytjnmpejcegmkhab

namespace Go.Proofs.Ytjnmpejcegmkhab
open Go.RowKit
variable {Fr : Nat → Prop}

/-- A new tree of the document, in no memory. -/
def newLay (c : Conf) : Lay := ⟨0, c, .slice none 0 0, [], .slice none 0 0, (List.range (2 ^ (c.depth.toNat + 1))).map fun u => (.slice none 0 0, if u = 0 then [] else newHist c.start u)⟩
theorem newLay_new (c : Conf) : NewLay c (newLay c) := by
  refine ⟨rfl, rfl, by simp [newLay], fun u h1 h2 => ?_, ?_⟩
  · have h2' : u < 2 ^ (c.depth.toNat + 1) := by simpa [newLay] using h2
    unfold Lay.hist newLay
    simp [List.getD_eq_getElem?_getD, h2']
    omega
  · unfold Lay.hist newLay
    have : 0 < 2 ^ (c.depth.toNat + 1) := Nat.two_pow_pos _
    simp [List.getD_eq_getElem?_getD, this]

end Go.Proofs.Ytjnmpejcegmkhab

namespace Go.Proofs.Ytjnmpejcegmkhab
open Go.RowKit
variable {Fr : Nat → Prop}

theorem KSt.at {w : World} {B hb : Nat} {c : Conf} {S : Gh} {P : PLay} (h : KSt Fr w B hb c S P) {W : World} (hw : Below w.heap.size w W) (p : Nat) (hp : p < S.L.procs.length) :
    Calls Try.prog 16 #[.pointer (some ⟨hb, 0, none⟩), I p] W fun e w' => e = .returned (.agg #[I (S.L.procs[p]).2.phase, I (S.L.procs[p]).2.node, I (S.L.procs[p]).2.val]) ∧ Below W.heap.size W w' := by
  have := kat_c (h.rep.below hw) (p : Int)
  rw [h.told p hp] at this
  exact this
theorem KSt.nodes {w : World} {B hb : Nat} {c : Conf} {S : Gh} {P : PLay} (h : KSt Fr w B hb c S P) {W : World} (hw : Below w.heap.size w W) :
    Calls Try.prog 13 #[.pointer (some ⟨P.tb, 0, none⟩)] W fun e w' => ∃ x l, e = .returned x ∧ NodesRep w' W.heap.size x l ∧ l.map (fun y => y.1) = rnodes S.L ∧ Below W.heap.size W w' :=
  (h.rel.rel.agree h.rel.ck.si h.rep.prog).nodes W hw
theorem KSt.shaped {w : World} {B hb : Nat} {c : Conf} {S : Gh} {P : PLay} (h : KSt Fr w B hb c S P) {b : Nat} {x : Value} {l : List (ND × Value × Value)} (hr : NodesRep w b x l) (el : l.map (fun y => y.1) = rnodes S.L) :
    Calls Try.prog 14 #[.pointer (some ⟨hb, 0, none⟩), x] w fun e w' => e = .returned (.bool true) ∧ Below w.heap.size w w' := by
  have hc := h.rep.conf.2.1
  have hcf := h.rel.rel.confs
  have e : P.c.depth = ((c.depth.toNat : Nat) : Int) := by rw [h.rel.rel.cP]; omega
  rw [e] at hc
  exact shaped_c c.depth.toNat hc hr (by rw [el]; exact h.rel.shaped)
theorem KSt.opsAt {w : World} {B hb : Nat} {c : Conf} {S : Gh} {P : PLay} (h : KSt Fr w B hb c S P) : ∃ ao cap, w.cell? ⟨hb, 9, none⟩ = some (.slice ao S.L.procs.length cap) ∧ S.L.procs.length ≤ cap ∧ S.L.procs.length ≤ 256 ∧ cap ≤ maxLen := by
  obtain ⟨_, _, _, ao, cap, c9, q1, q2, q3⟩ := h.rep.conf
  have e : S.ops.length = S.L.procs.length := h.rep.len.trans h.rel.plen
  rw [e] at c9 q1
  exact ⟨ao, cap, c9, q1, h.rel.rel.np, q3⟩

end Go.Proofs.Ytjnmpejcegmkhab

namespace Go.Proofs.Ytjnmpejcegmkhab
open Go.RowKit
variable {Fr : Nat → Prop}

theorem PRep.base2 {w : World} {B B' : Nat} {L : PLay} (h : PRep Fr w B L) (hb : B' ≤ B) : PRep Fr w B' L :=
  ⟨h.tree, Nat.le_trans hb h.treeB, h.len, ownsRow_mono h.prow hb, fun v hv => ownsRow_mono (h.items v hv) hb, h.ind, h.far⟩

set_option maxHeartbeats 4000000 in
theorem kbegin_no (c : Conf) (w : World) (h : mayC c = false) : Calls Try.prog 7 #[confV c] w fun e w' => e = .returned (.tuple #[.pointer none, .bool true]) ∧ Below w.heap.size w w' := by
  have h1 := fun W => pnew_no c W h
  have h2 := fun W => good_c c W
  rw [h] at h2
  unfold confV at h1 h2 ⊢
  clear h
  replace h1 : Hid _ := h1
  replace h2 : Hid _ := h2
  go_enter Try.func7, Try.ntmps7
  go_wp2_with fail
  refine Calls.mono (h1.out _) ?_
  rintro e w1 ⟨rfl, hb1⟩
  have nb1 : w1.heap[w.heap.size]? = some (.cells #[I c.kind, I c.depth, I c.start, I c.slots, I c.width, I c.spin, I c.drain, I c.procs] 23 (0, 0)) := (hb1.block _ (by simp)).trans (nb_alloc _ _ _)
  have hb2 : Below w.heap.size w w1 := ((Below.refl _ _).alloc (Nat.le_refl _) _).trans (hb1.mono (by simp))
  obtain ⟨f1, _⟩ := nb_facts nb1
  clear hb1 h1
  go_wp2_with fail
  refine Calls.mono (h2.out _) ?_
  rintro e w2 ⟨rfl, hb3⟩
  go_wp2
  go_ret2
  exact ⟨rfl, hb2.trans (hb3.mono hb2.size)⟩

set_option maxHeartbeats 4000000 in
theorem kbegin_yes (c : Conf) (w : World) (h : mayC c = true) (hF : ∀ k, Fr k → k < w.heap.size) : Calls Try.prog 7 #[confV c] w fun e w' => ∃ hb P, e = .returned (.tuple #[.pointer (some ⟨hb, 0, none⟩), .bool true]) ∧ KRep Fr w' w.heap.size hb P [] [] ∧ PNew c P ∧ Below w.heap.size w w' := by
  have h1 := fun W (hw : w.heap.size ≤ W.heap.size) => pnew_yes c W h (fun k hk => Nat.lt_of_lt_of_le (hF k hk) hw)
  replace hF : Hid _ := hF
  have h2 := fun W => good_c c W
  rw [h] at h2
  unfold confV at h1 h2 ⊢
  clear h
  replace h1 : Hid _ := h1
  replace h2 : Hid _ := h2
  go_enter Try.func7, Try.ntmps7
  go_wp2_with fail
  refine Calls.mono (h1.out _ (by simp)) ?_
  rintro e w1 ⟨P, rfl, hpr, hpn, hb1⟩
  have nb1 : w1.heap[w.heap.size]? = some (.cells #[I c.kind, I c.depth, I c.start, I c.slots, I c.width, I c.spin, I c.drain, I c.procs] 23 (0, 0)) := (hb1.block _ (by simp)).trans (nb_alloc _ _ _)
  have hb2 : Below w.heap.size w w1 := ((Below.refl _ _).alloc (Nat.le_refl _) _).trans (hb1.mono (by simp))
  obtain ⟨f1, _⟩ := nb_facts nb1
  have HPR : Hid _ := hpr
  clear hb1 h1 hpr
  go_wp2_with fail
  refine Calls.mono (h2.out _) ?_
  rintro e w2 ⟨rfl, hb3⟩
  have nb2 := (hb3.block _ (Array.getElem?_eq_some_iff.1 nb1).1).trans nb1
  obtain ⟨g1, _⟩ := nb_facts nb2
  have hb4 := hb2.trans (hb3.mono hb2.size)
  have HP2 : Hid _ := HPR.out.below hb3
  clear f1 hb3 hb2 HPR
  go_wp2_with fail
  go_ret2
  have hcf := hpn.conf
  refine ⟨w2.heap.size, P, rfl, ⟨⟨.slice none 0 0, .slice none 0 0, ?_, World.ownsRow_nil _ _ _ _, World.ownsRow_nil _ _ _ _, ⟨fun hk => by have := hF.out _ hk; have := hb4.size; omega, fun g hg => by simp [Value.ownBlock] at hg, fun g hg => by simp [Value.ownBlock] at hg⟩⟩, hb4.size, ?_, by rw [hpn.procs]; rfl, rfl⟩, hpn, hb4.alloc hb4.size _⟩
  · unfold handCells
    rw [hcf]
    exact nb_alloc _ _ _
  · exact (HP2.out.below ((Below.refl _ _).alloc (Nat.le_refl _) _)).base2 (by simp)

end Go.Proofs.Ytjnmpejcegmkhab

namespace Go.Proofs.Ytjnmpejcegmkhab
open Go.RowKit
variable {Fr : Nat → Prop}

theorem ownsRow_same {w w' : World} {b : Nat} {e : TypeId} {size : Nat} {v : Value} {n : Nat} {xs : List Value} (h : w.ownsRow b e size v n xs) (hb : ∀ g, v.ownBlock = some g → w'.heap[g]? = w.heap[g]?) : w'.ownsRow b e size v n xs := by
  obtain ⟨h1, h2⟩ := h
  refine ⟨h1, ?_⟩
  rcases h2 with h2 | ⟨g, cap, cur, hv, hg, hh, r⟩
  · exact Or.inl h2
  · exact Or.inr ⟨g, cap, cur, hv, hg, (hb g (by rw [hv]; rfl)).trans hh, r⟩

/-- The blocks of a hand. -/
def HBlk (hb : Nat) (P : PLay) (ov wv : Value) (k : Nat) : Prop :=
  k = hb ∨ ov.ownBlock = some k ∨ wv.ownBlock = some k ∨ k = P.tb ∨ P.pv.ownBlock = some k ∨ ∃ v, ∃ hv : v < P.nodes.length, (P.nodes[v]).iv.ownBlock = some k

section
variable {w : World} {B hb : Nat} {P : PLay} {ov wv : Value} {ops : List Op3} {went : List Bool}
theorem KMem.blkLt (h : KMem Fr w B hb P ov wv ops went) {k : Nat} (hk : HBlk hb P ov wv k) : k < w.heap.size := by
  rcases hk with rfl | hk | hk | rfl | hk | ⟨v, hv, hk⟩
  · exact (Array.getElem?_eq_some_iff.1 h.blk).1
  · exact (h.rop.lt k hk).2
  · exact (h.rwe.lt k hk).2
  · exact h.prog.size
  · exact (h.prog.prow.lt k hk).2
  · exact ((h.prog.items v hv).lt k hk).2
theorem KMem.free (h : KMem Fr w B hb P ov wv ops went) {k : Nat} (hk : HBlk hb P ov wv k) : ¬ Fr k := by
  rcases hk with rfl | hk | hk | rfl | hk | ⟨v, hv, hk⟩
  · exact h.far.1
  · exact h.far.2.1 k hk
  · exact h.far.2.2 k hk
  · exact h.prog.far.2.1
  · exact h.prog.far.2.2.1 k hk
  · exact h.prog.far.2.2.2 v hv k hk

/-- A hand whose blocks are as they were is as it was, and may be told of others' blocks. -/
theorem KMem.re (h : KMem Fr w B hb P ov wv ops went) {w' : World} {Fr' : Nat → Prop} (hs : ∀ k, HBlk hb P ov wv k → w'.heap[k]? = w.heap[k]?) (h1 : ∀ k, Fr' k → k < w'.heap.size) (h2 : ∀ k, HBlk hb P ov wv k → ¬ Fr' k) : KMem Fr' w' B hb P ov wv ops went :=
  ⟨(hs _ (Or.inl rfl)).trans h.blk, ownsRow_same h.rop fun g hg => hs g (Or.inr (Or.inl hg)), ownsRow_same h.rwe fun g hg => hs g (Or.inr (Or.inr (Or.inl hg))), h.hB,
    ⟨(hs _ (Or.inr (Or.inr (Or.inr (Or.inl rfl))))).trans h.prog.tree, h.prog.treeB, h.prog.len, ownsRow_same h.prog.prow fun g hg => hs g (Or.inr (Or.inr (Or.inr (Or.inr (Or.inl hg))))), fun v hv => ownsRow_same (h.prog.items v hv) fun g hg => hs g (Or.inr (Or.inr (Or.inr (Or.inr (Or.inr ⟨v, hv, hg⟩))))), h.prog.ind,
      ⟨h1, h2 _ (Or.inr (Or.inr (Or.inr (Or.inl rfl)))), fun g hg => h2 g (Or.inr (Or.inr (Or.inr (Or.inr (Or.inl hg))))), fun v hv g hg => h2 g (Or.inr (Or.inr (Or.inr (Or.inr (Or.inr ⟨v, hv, hg⟩)))))⟩⟩,
    ⟨h2 _ (Or.inl rfl), fun g hg => h2 g (Or.inr (Or.inl hg)), fun g hg => h2 g (Or.inr (Or.inr (Or.inl hg)))⟩⟩
end

/-- A hand, its blocks told. -/
structure KOne (Fr : Nat → Prop) (w : World) (B hb : Nat) (c : Conf) (S : Gh) (P : PLay) (ov wv : Value) : Prop where
  mem : KMem Fr w B hb P ov wv S.ops S.went
  len : S.ops.length = P.procs.length
  wlen : S.went.length = S.ops.length
  rel : CRel c S.L P
  of : OpsOf S
theorem KOne.st {w : World} {B hb : Nat} {c : Conf} {S : Gh} {P : PLay} {ov wv : Value} (h : KOne Fr w B hb c S P ov wv) (hB : B ≤ w.heap.size) : KSt Fr w B hb c S P :=
  ⟨⟨⟨ov, wv, h.mem.blk, h.mem.rop, h.mem.rwe, h.mem.far⟩, h.mem.hB, h.mem.prog, h.len, h.wlen⟩, h.rel, hB, h.of⟩
theorem KSt.one {w : World} {B hb : Nat} {c : Conf} {S : Gh} {P : PLay} (h : KSt Fr w B hb c S P) : ∃ ov wv, KOne Fr w B hb c S P ov wv := by
  obtain ⟨ov, wv, hm⟩ := h.rep.mem
  exact ⟨ov, wv, hm, h.rep.len, h.rep.wlen, h.rel, h.of⟩

/-- Two hands in one memory. -/
def Two (w : World) (B h1 h2 : Nat) (c : Conf) (S1 S2 : Gh) : Prop :=
  B ≤ w.heap.size ∧ ∃ P1 P2 o1 v1 o2 v2, KOne (HBlk h2 P2 o2 v2) w B h1 c S1 P1 o1 v1 ∧ KOne (HBlk h1 P1 o1 v1) w B h2 c S2 P2 o2 v2

theorem Two.swap {w : World} {B h1 h2 : Nat} {c : Conf} {S1 S2 : Gh} (h : Two w B h1 h2 c S1 S2) : Two w B h2 h1 c S2 S1 := by
  obtain ⟨hB, P1, P2, o1, v1, o2, v2, a, b⟩ := h
  exact ⟨hB, P2, P1, o2, v2, o1, v1, b, a⟩

/-- The first acts, within what is its own: the second is as it was. -/
theorem Two.first {w : World} {B h1 h2 : Nat} {c : Conf} {S1 S2 : Gh} (h : Two w B h1 h2 c S1 S2) : ∃ (Fr : Nat → Prop) (P1 : PLay), KSt Fr w B h1 c S1 P1 ∧ ∀ (T : List TypeId) w' S1', (∃ P', KSt Fr w' B h1 c S1' P') → ChgT Fr B T w w' → Two w' B h1 h2 c S1' S2 := by
  obtain ⟨hB, P1, P2, o1, v1, o2, v2, a, b⟩ := h
  refine ⟨HBlk h2 P2 o2 v2, P1, a.st hB, fun T w' S1' ⟨P', hk⟩ hc => ?_⟩
  obtain ⟨o1', v1', a'⟩ := hk.one
  refine ⟨hk.hB, P', P2, o1', v1', o2, v2, a', ⟨b.mem.re (fun k hk => hc.far k (b.mem.blkLt hk) hk) (fun k hk => a'.mem.blkLt hk) (fun k hk hk' => a'.mem.free hk' hk), b.len, b.wlen, b.rel, b.of⟩⟩

theorem Two.below {w w' : World} {B h1 h2 : Nat} {c : Conf} {S1 S2 : Gh} (h : Two w B h1 h2 c S1 S2) (hb : Below w.heap.size w w') : Two w' B h1 h2 c S1 S2 := by
  obtain ⟨Fr, P1, hk, hf⟩ := h.first
  exact hf [] w' S1 ⟨P1, hk.below hb⟩ (ChgT.of_below hb)
theorem Two.second {w : World} {B h1 h2 : Nat} {c : Conf} {S1 S2 : Gh} (h : Two w B h1 h2 c S1 S2) : ∃ (Fr : Nat → Prop) (P2 : PLay), KSt Fr w B h2 c S2 P2 ∧ ∀ (T : List TypeId) w' S2', (∃ P', KSt Fr w' B h2 c S2' P') → ChgT Fr B T w w' → Two w' B h1 h2 c S1 S2' := by
  obtain ⟨Fr, P2, hk, hf⟩ := h.swap.first
  exact ⟨Fr, P2, hk, fun T w' S2' h1 h2 => (hf T w' S2' h1 h2).swap⟩

theorem KMem.base {w : World} {B B' hb : Nat} {P : PLay} {ov wv : Value} {ops : List Op3} {went : List Bool} (h : KMem Fr w B hb P ov wv ops went) (hb' : B' ≤ B) : KMem Fr w B' hb P ov wv ops went :=
  ⟨h.blk, ownsRow_mono h.rop hb', ownsRow_mono h.rwe hb', Nat.le_trans hb' h.hB, h.prog.base2 hb', h.far⟩

/-- Two hands that were begun one behind the other. -/
theorem two_new {c : Conf} (hm : mayC c = true) {w1 w2 : World} {B B2 h1 h2 : Nat} {P1 P2 : PLay} {o1 v1 : Value} (a : KMem (fun _ => False) w1 B h1 P1 o1 v1 [] []) (ap : PNew c P1) (hb : Below w1.heap.size w1 w2) (b : KRep (HBlk h1 P1 o1 v1) w2 B2 h2 P2 [] []) (bp : PNew c P2) (hB : B ≤ w2.heap.size) (hB2 : B ≤ B2) :
    Two w2 B h1 h2 c ⟨newLay c, [], []⟩ ⟨newLay c, [], []⟩ := by
  obtain ⟨o2, v2, b'⟩ := b.mem
  refine ⟨hB, P1, P2, o1, v1, o2, v2, ⟨a.re (fun k hk => hb.block k (a.blkLt hk)) (fun k hk => b'.blkLt hk) (fun k hk hk' => b'.free hk' hk), by rw [ap.procs]; rfl, rfl, crel_new hm (newLay_new c) ap a.prog.len, ⟨rfl, rfl, fun _ hi => absurd hi (Nat.not_lt_zero _), fun _ hi => absurd hi (Nat.not_lt_zero _)⟩⟩,
    ⟨b'.base hB2, by rw [bp.procs]; rfl, rfl, crel_new hm (newLay_new c) bp b'.prog.len, ⟨rfl, rfl, fun _ hi => absurd hi (Nat.not_lt_zero _), fun _ hi => absurd hi (Nat.not_lt_zero _)⟩⟩⟩

end Go.Proofs.Ytjnmpejcegmkhab

namespace Go.Proofs.Ytjnmpejcegmkhab
open Go.RowKit
variable {Fr : Nat → Prop}

theorem tmod_fix (b : Int) : (if b.tmod 12 < 0 then b.tmod 12 + 12 else b.tmod 12) = b % 12 := by
  have h1 := Int.tmod_eq_emod (a := b) (b := 12)
  rw [h1]
  split <;> omega

theorem lround_live (L : Lay) (d : Int) (k : Nat) (h : phaseAt (lroundTo L d k) k ≠ 20) : lroundTo L d (k + 1) = lstep (lroundTo L d k) k (d + k) := by
  rw [lroundTo]
  exact if_neg h
theorem lround_done (L : Lay) (d : Int) (k : Nat) (h : phaseAt (lroundTo L d k) k = 20) : lroundTo L d (k + 1) = lroundTo L d k := by
  rw [lroundTo]
  exact if_pos h

set_option maxHeartbeats 8000000 in
set_option maxRecDepth 100000 in
theorem kbyHand_c {w : World} {B hb : Nat} {c : Conf} {S : Gh} {P : PLay} (h : KSt Fr w B hb c S P) (a b : Int) :
    Calls Try.prog 21 #[.pointer (some ⟨hb, 0, none⟩), I a, I b] w fun e w' => e = .returned (.bool true) ∧ (∃ S' : Gh, S'.L = (grest S a b).L ∧ ∃ P', KSt Fr w' B hb c S' P') ∧ ChgT Fr B KT w w' := by
  by_cases ha : 0 ≤ a ∧ a ≤ 100
  · obtain ⟨r, rfl⟩ := Int.eq_ofNat_of_zero_le ha.1
    have eg : (grest S r b).L = lrest S.L (b % 12) r := by
      unfold grest
      rw [if_pos ha, Int.toNat_natCast]
    rw [eg]
    have hm := tmod_fix b
    have hm0 : 0 ≤ b % 12 ∧ b % 12 < 12 := by omega
    have HL : Hid (∀ (W : World) (S' : Gh) (P' : PLay), KSt Fr W B hb c S' P' → S'.L.procs.length = S.L.procs.length → ∃ ao cap, W.cell? ⟨hb, 9, none⟩ = some (.slice ao S.L.procs.length cap) ∧ S.L.procs.length ≤ cap ∧ cap ≤ maxLen) := by
      intro W S' P' hk hl
      obtain ⟨ao, cap, q1, q2, q3, q4⟩ := hk.opsAt
      rw [hl] at q1 q2
      exact ⟨ao, cap, q1, q2, q4⟩
    have np : S.L.procs.length ≤ 256 := by obtain ⟨_, _, _, _, q, _⟩ := h.opsAt; exact q
    have HAT : Hid (∀ (W : World) (S' : Gh) (P' : PLay), KSt Fr W B hb c S' P' → ∀ p, (hp : p < S'.L.procs.length) → Calls Try.prog 16 #[.pointer (some ⟨hb, 0, none⟩), I p] W fun e w' => e = .returned (.agg #[I (phaseAt S'.L p), I (S'.L.procs[p]).2.node, I (S'.L.procs[p]).2.val]) ∧ Below W.heap.size W w') := by
      intro W S' P' hk p hp
      rw [phaseAt_eq S'.L p hp]
      exact hk.at (Below.refl _ _) p hp
    have HST : Hid (∀ (W : World) (S' : Gh) (P' : PLay) (d : Int), KSt Fr W B hb c S' P' → ∀ p : Nat, p < S'.L.procs.length → phaseAt S'.L p ≠ 20 → Calls Try.prog 25 #[.pointer (some ⟨hb, 0, none⟩), I p, I d] W fun e w' => e = .returned (.bool true) ∧ (∃ S2 : Gh, S2.L = lstep S'.L p d ∧ ∃ P2, KSt Fr w' B hb c S2 P2) ∧ ChgT Fr B KT W w') := by
      intro W S' P' d hk p hp h20
      refine (hstep_c hk p d).mono ?_
      rintro e w' ⟨he, hP, hc⟩
      refine ⟨he, ⟨gstep S' p d, ?_, hP⟩, hc⟩
      unfold gstep
      rw [if_pos ⟨by omega, by omega, by rw [Int.toNat_natCast]; exact h20⟩, Int.toNat_natCast]
    have HN1 : Hid (∀ (L : Lay) (d : Int) (k : Nat), phaseAt (lroundTo L d k) k ≠ 20 → lroundTo L d (k + 1) = lstep (lroundTo L d k) k (d + k)) := lround_live
    have HN2 : Hid (∀ (L : Lay) (d : Int) (k : Nat), phaseAt (lroundTo L d k) k = 20 → lroundTo L d (k + 1) = lroundTo L d k) := lround_done
    have b0 : decide ((r : Int) < 0) = false := by simp
    have b1 : decide ((r : Int) > 100) = false := by simp; omega
    have H0 : Hid _ := h
    have hba : b.tmod 12 < 12 ∧ -12 < b.tmod 12 := by
      have := Int.tmod_lt_of_pos b (b := 12) (by omega)
      have := Int.lt_tmod_of_pos b (b := 12) (by omega)
      omega
    have hr : r ≤ 100 := by omega
    clear h eg ha
    go_enter Try.func21, Try.ntmps21
    go_upto_if 21 with fail
    go_cut [7] (fun s7 wx => s7 = I (b % 12) ∧ Below w.heap.size w wx)
    case first =>
      by_cases hn : b.tmod 12 < 0
      · rw [if_pos hn] at hm
        have bn : decide (b.tmod 12 < 0) = true := decide_eq_true hn
        replace hm : Hid _ := hm
        clear hn H0 HN1 HN2 HST HAT HL
        rw [bn]
        go_wp2_with fail
        go_meet
        refine ⟨?_, Below.refl _ _⟩
        rw [← hm.out]
      · rw [if_neg hn] at hm
        have bn : decide (b.tmod 12 < 0) = false := decide_eq_false hn
        replace hm : Hid _ := hm
        clear hn H0 HN1 HN2 HST HAT HL
        rw [bn]
        go_wp2_with fail
        go_meet
        refine ⟨?_, Below.refl _ _⟩
        rw [← hm.out]
    case rest =>
      obtain ⟨rfl, hbw⟩ := hcut
      clear hm hba
      replace hm0 : Hid _ := hm0
      generalize hmm : b % 12 = m at *
      have hm1 := hm0.out
      obtain ⟨hm2, hm3⟩ := hm1
      replace hmm : Hid _ := hmm
      have H1 : Hid (KSt Fr wc B hb c S P) := H0.out.below hbw
      have hc0 : ChgT Fr B KT w wc := ChgT.of_below hbw
      clear hbw H0
      go_wp2_with fail
      go_loopw [8, 9, 10, 11] (fun kk _ _ _ wr => ∃ j : Nat, j ≤ r ∧ kk = .int .i64 j ∧ Hid (∃ S' : Gh, S'.L = lrest S.L m j ∧ ∃ P', KSt Fr wr B hb c S' P') ∧ ChgT Fr B KT w wr) (fun kk _ _ _ _ => r - (intOf kk).toNat)
      case atStart => exact ⟨0, Nat.zero_le _, rfl, ⟨S, rfl, P, H1.out⟩, hc0⟩
      case round =>
        obtain ⟨j, hj, rfl, hst, hcr⟩ := hrel
        by_cases hlt : j < r
        · have hji : (j : Int) < r := by omega
          clear hc0 H1
          go_wp2_with fail
          go_loopw [9, 10, 11] (fun pp _ _ wr => ∃ p : Nat, p ≤ S.L.procs.length ∧ pp = .int .i64 p ∧ Hid (∃ S' : Gh, S'.L = lroundTo (lrest S.L m j) (m + j) p ∧ ∃ P', KSt Fr wr B hb c S' P') ∧ ChgT Fr B KT w wr) (fun pp _ _ _ => S.L.procs.length - (intOf pp).toNat)
          case atStart => exact ⟨0, Nat.zero_le _, rfl, hst, hcr⟩
          case round =>
            clear hst hcr
            obtain ⟨p, hp, rfl, hst, hcr⟩ := hrel
            obtain ⟨S', eL, P', hk⟩ := hst.out
            have hl' : S'.L.procs.length = S.L.procs.length := by rw [eL, lroundTo_len, lrest_len]
            obtain ⟨ao, cap, c9, q1, q2⟩ := HL.out _ S' P' hk hl'
            unfold maxLen at q2
            have l9 := cell_lt c9
            by_cases hpl : p < S.L.procs.length
            · have hat := HAT.out _ S' P' hk p (by omega)
              have hpi : (p : Int) < (S.L.procs.length : Int) := by omega
              have HPH : Hid (phaseAt S'.L p = phaseAt (lroundTo (lrest S.L m j) (m + j) p) p) := by show _ = _; rw [eL]
              have hpS : p < S'.L.procs.length := by omega
              generalize hnd : (S'.L.procs[p]).2.node = y2 at *
              generalize hvl : (S'.L.procs[p]).2.val = y3 at *
              clear hnd hvl
              replace hat : Hid _ := hat
              have HKp : Hid (KSt Fr _ B hb c S' P') := hk
              have HEL : Hid _ := eL
              generalize hy1 : phaseAt S'.L p = y1 at *
              clear hst hk eL hl' q1 q2
              go_wp2_with fail
              refine Calls.mono hat.out ?_
              rintro e w1 ⟨rfl, hb1⟩
              have hb2 := hb1.alloc hb1.size (.cells #[I y1, I y2, I y3] 48)
              have hk1 : Hid _ := HKp.out.below hb2
              have hc1 : ChgT Fr B KT w (w1.alloc (.cells #[I y1, I y2, I y3] 48)) := hcr.trans (ChgT.of_below hb2)
              have nb1 : (w1.alloc (.cells #[I y1, I y2, I y3] 48)).heap[w1.heap.size]? = some (.cells #[I y1, I y2, I y3] 48 (0, 0)) := nb_alloc _ _ _
              obtain ⟨z1, _⟩ := nb_facts nb1
              replace hc1 : Hid _ := hc1
              clear hat hcr hb1 HKp c9 l9 nb1
              by_cases h20 : y1 = 20
              · have b20 : (y1 == 20) = true := by rw [beq_iff_eq]; exact h20
                have hnext : Hid (∃ S' : Gh, S'.L = lroundTo (lrest S.L m j) (m + j) (p + 1) ∧ ∃ P', KSt Fr (w1.alloc (.cells #[I y1, I y2, I y3] 48)) B hb c S' P') := ⟨S', by rw [HN2.out _ _ _ (by rw [← HPH.out]; exact h20)]; exact HEL.out, P', hk1.out⟩
                clear h20 hk1
                go_wp2_with fail
                go_roundw
                case rel => exact ⟨p + 1, by omega, by go_num, hnext, hc1.out⟩
                case measure => simp [intOf]; omega
              · have b20 : (y1 == 20) = false := by rw [beq_eq_false_iff_ne]; exact h20
                have hstp := HST.out _ S' P' (m + j + p) hk1.out p hpS (by rw [hy1]; exact h20)
                have HE : Hid (lroundTo (lrest S.L m j) (m + j) (p + 1) = lstep S'.L p (m + j + p)) := by
                  show _ = _
                  rw [HN1.out _ _ _ (by rw [← HPH.out]; exact h20), HEL.out]
                replace hstp : Hid _ := hstp
                clear h20 hk1 hy1
                go_wp2_with fail
                refine Calls.mono hstp.out ?_
                rintro e w2 ⟨rfl, ⟨S2, e2, P2, hk2⟩, hc2⟩
                have hnext : Hid (∃ S' : Gh, S'.L = lroundTo (lrest S.L m j) (m + j) (p + 1) ∧ ∃ P', KSt Fr w2 B hb c S' P') := ⟨S2, by rw [HE.out]; exact e2, P2, hk2⟩
                have hc3 : Hid _ := hc1.out.trans hc2
                clear hstp e2 hk2 hc2
                go_wp2_with fail
                go_roundw
                case rel => exact ⟨p + 1, by omega, by go_num, hnext, hc3.out⟩
                case measure => simp [intOf]; omega
            · have e : p = S.L.procs.length := by omega
              subst e
              have hfin : Hid (∃ S' : Gh, S'.L = lrest S.L m (j + 1) ∧ ∃ P', KSt Fr wr B hb c S' P') := ⟨S', eL, P', hk⟩
              clear hk hst eL hl'
              go_wp2_with fail
              go_roundw
              case rel => exact ⟨j + 1, by omega, by go_num, hfin, hcr⟩
              case measure => simp [intOf]; omega
        · have e : j = r := by omega
          subst e
          have hfin : Hid (∃ S' : Gh, S'.L = lrest S.L (b % 12) j ∧ ∃ P', KSt Fr wr B hb c S' P') := by
            show ∃ S' : Gh, _
            rw [hmm.out]
            exact hst.out
          go_wp2_with fail
          go_ret
          exact ⟨rfl, hfin.out, hcr⟩
  · have eg : grest S a b = S := by unfold grest; rw [if_neg ha]
    rw [eg]
    have H0 : Hid _ := h
    by_cases h0 : a < 0
    · have b0 : decide (a < 0) = true := decide_eq_true h0
      clear h ha eg h0
      go_enter Try.func21, Try.ntmps21
      go_wp2_with fail
      go_ret
      exact ⟨rfl, ⟨S, rfl, P, H0.out⟩, ChgT.refl _ _ _⟩
    · have b0 : decide (a < 0) = false := decide_eq_false h0
      have b1 : decide (a > 100) = true := decide_eq_true (by omega)
      clear h ha eg h0
      go_enter Try.func21, Try.ntmps21
      go_wp2_with fail
      go_ret
      exact ⟨rfl, ⟨S, rfl, P, H0.out⟩, ChgT.refl _ _ _⟩

end Go.Proofs.Ytjnmpejcegmkhab

namespace Go.Proofs.Ytjnmpejcegmkhab
open Go.RowKit
variable {Fr : Nat → Prop}

set_option maxHeartbeats 1000000 in
theorem ksameInts_c {w : World} {ba bb : Nat} {a b : Value} {n m : Nat} {xs : List Int} (ha : w.ownsRow ba 3 1 a n (xs.map I)) (hb : w.ownsRow bb 3 1 b m (xs.map I)) :
    Calls Try.prog 62 #[a, b] w fun e w' => e = .returned (.bool true) ∧ Below w.heap.size w w' := by
  obtain ⟨ao, ca, rfl, a1, a2, rfl, a4⟩ := row_cells ha
  obtain ⟨bo, cb, rfl, b1, b2, rfl, b4⟩ := row_cells hb
  unfold maxLen at a2 b2
  clear ha hb
  go_enter Try.func62, Try.ntmps62
  go_wp2
  go_loopw [5] (fun i wr => ∃ k : Nat, k ≤ xs.length ∧ i = .int .i64 k ∧ Below w.heap.size w wr) (fun i _ => xs.length - (intOf i).toNat)
  case atStart => exact ⟨0, Nat.zero_le _, rfl, Below.refl _ _⟩
  case round =>
    obtain ⟨k, hk, rfl, hbr⟩ := hrel
    by_cases hlt : k < xs.length
    · obtain ⟨g, rfl, l1, c1⟩ := a4 k hlt
      obtain ⟨g', rfl, l2, c2⟩ := b4 k hlt
      have d1 := (hbr.cell (p := ⟨g, k, none⟩) l1).trans c1
      have d2 := (hbr.cell (p := ⟨g', k, none⟩) l2).trans c2
      clear c1 c2 a4 b4
      generalize xs[k] = y at *
      go_wp2
      go_region
      go_wp2
      go_roundw
      case rel => exact ⟨k + 1, by omega, by go_num, hbr.drew⟩
      case measure => simp [intOf]; omega
    · go_wp2
      go_ret
      exact ⟨rfl, hbr⟩

set_option maxHeartbeats 2000000 in
theorem ksameNode_c {w : World} {ba bb n1 n2 m1 m2 : Nat} {d : ND} {wv iv wv' iv' : Value} (h1 : w.ownsRow ba 3 1 wv n1 (d.waiting.map I)) (h2 : w.ownsRow bb 3 1 wv' n2 (d.waiting.map I))
    (h3 : w.ownsRow ba 3 1 iv m1 (d.items.map I)) (h4 : w.ownsRow bb 3 1 iv' m2 (d.items.map I)) :
    Calls Try.prog 54 #[.agg #[I d.num, I d.depth, I d.rank, .bool d.inner, .bool d.shut, I d.inside, I d.toggle, I d.width, wv, I d.puts, I d.gets, iv],
      .agg #[I d.num, I d.depth, I d.rank, .bool d.inner, .bool d.shut, I d.inside, I d.toggle, I d.width, wv', I d.puts, I d.gets, iv']] w fun e w' => e = .returned (.bool true) ∧ Below w.heap.size w w' := by
  have H1 := fun w' (hb : Below w.heap.size w w') => ksameInts_c (ownsRow_below h1 hb (Nat.le_refl _)) (ownsRow_below h2 hb (Nat.le_refl _))
  have H2 := fun w' (hb : Below w.heap.size w w') => ksameInts_c (ownsRow_below h3 hb (Nat.le_refl _)) (ownsRow_below h4 hb (Nat.le_refl _))
  obtain ⟨ao, ca, rfl, _⟩ := row_cells h1
  obtain ⟨ao', ca', rfl, _⟩ := row_cells h2
  obtain ⟨bo, cb, rfl, _⟩ := row_cells h3
  obtain ⟨bo', cb', rfl, _⟩ := row_cells h4
  clear h1 h2 h3 h4
  obtain ⟨num, dep, rk, inner, sh, ins, tog, wid, wt, pu, ge, its⟩ := d
  simp only at *
  replace H1 : Hid _ := H1
  replace H2 : Hid _ := H2
  go_enter Try.func54, Try.ntmps54
  go_wp2_with fail
  have hb0 : Below w.heap.size w ((w.alloc (.cells #[I num, I dep, I rk, .bool inner, .bool sh, I ins, I tog, I wid, .slice ao n1 ca, I pu, I ge, .slice bo m1 cb] 46)).alloc (.cells #[I num, I dep, I rk, .bool inner, .bool sh, I ins, I tog, I wid, .slice ao' n2 ca', I pu, I ge, .slice bo' m2 cb'] 46)) :=
    ((Below.refl _ _).alloc (Nat.le_refl _) _).alloc (by simp) _
  refine (H1.out _ hb0).mono ?_
  rintro x w1 ⟨rfl, hb1⟩
  have hb2 := hb0.trans (hb1.mono hb0.size)
  have na : w1.heap[w.heap.size]? = some (.cells #[I num, I dep, I rk, .bool inner, .bool sh, I ins, I tog, I wid, .slice ao n1 ca, I pu, I ge, .slice bo m1 cb] 46 (0, 0)) :=
    (hb1.block _ (by simp; omega)).trans (by rw [Below.heap_alloc _ _ _ (by simp)]; exact nb_alloc _ _ _)
  have nc : w1.heap[w.heap.size + 1]? = some (.cells #[I num, I dep, I rk, .bool inner, .bool sh, I ins, I tog, I wid, .slice ao' n2 ca', I pu, I ge, .slice bo' m2 cb'] 46 (0, 0)) :=
    (hb1.block _ (by simp)).trans (by
      have := nb_alloc (w.alloc (.cells #[I num, I dep, I rk, .bool inner, .bool sh, I ins, I tog, I wid, .slice ao n1 ca, I pu, I ge, .slice bo m1 cb] 46)) #[I num, I dep, I rk, .bool inner, .bool sh, I ins, I tog, I wid, .slice ao' n2 ca', I pu, I ge, .slice bo' m2 cb'] 46
      simpa using this)
  have hs1 : w.heap.size < w1.heap.size := (Array.getElem?_eq_some_iff.1 na).1
  have hs2 : w.heap.size + 1 < w1.heap.size := (Array.getElem?_eq_some_iff.1 nc).1
  clear hb0 hb1 H1
  obtain ⟨f1, f2⟩ := nb_facts na
  obtain ⟨g1, g2⟩ := nb_facts nc
  clear f2 g2
  go_wp2_with fail
  refine (H2.out _ hb2).mono ?_
  rintro x w2 ⟨rfl, hb3⟩
  have na2 := (hb3.block _ hs1).trans na
  have nc2 := (hb3.block _ hs2).trans nc
  have hb4 := hb2.trans (hb3.mono hb2.size)
  clear f1 g1 na nc hb3 hb2 H2
  obtain ⟨f1, _⟩ := nb_facts na2
  obtain ⟨g1, _⟩ := nb_facts nc2
  go_wp2
  go_ret
  exact ⟨rfl, hb4⟩

end Go.Proofs.Ytjnmpejcegmkhab

namespace Go.Proofs.Ytjnmpejcegmkhab
open Go.RowKit
variable {Fr : Nat → Prop}

end Go.Proofs.Ytjnmpejcegmkhab

namespace Go.Proofs.Ytjnmpejcegmkhab
open Go.RowKit
variable {Fr : Nat → Prop}

/-- Two lists of nodes that are the same but for one node and, if it is said, its children. -/
def SameL (a b : List ND) (v : Nat) (ch : Bool) : Prop :=
  ∀ u : Nat, 1 ≤ u → u < 64 → ¬ (u = v ∧ 0 < v) → ¬ (ch = true ∧ u / 2 = v ∧ 1 < u) →
    (findN u (a.map fun d => d.num) 0 = -1 ∧ findN u (b.map fun d => d.num) 0 = -1) ∨
    ∃ i j : Nat, ∃ hi : i < a.length, ∃ hj : j < b.length, findN u (a.map fun d => d.num) 0 = (i : Int) ∧ findN u (b.map fun d => d.num) 0 = (j : Int) ∧ b[j] = a[i]


set_option maxHeartbeats 8000000 in
set_option maxRecDepth 100000 in
theorem ksameBut_c {w : World} {ba bb : Nat} {x y : Value} {la lb : List (ND × Value × Value)} (ha : NodesRep w ba x la) (hb : NodesRep w bb y lb) (v : Nat) (ch : Bool) (hs : SameL (la.map fun z => z.1) (lb.map fun z => z.1) v ch) :
    Calls Try.prog 41 #[x, y, I v, .bool ch] w fun e w' => e = .returned (.bool true) ∧ Below w.heap.size w w' := by
  have HA : Hid (∀ W, Below w.heap.size w W → ∀ u, Calls Try.prog 36 #[x, I u] W fun e w' => e = .returned (I (findN u (la.map fun z => z.1.num) 0)) ∧ w' = W) := fun W hW u => find_c (ha.below hW (Nat.le_refl _)) u
  have HB : Hid (∀ W, Below w.heap.size w W → ∀ u, Calls Try.prog 36 #[y, I u] W fun e w' => e = .returned (I (findN u (lb.map fun z => z.1.num) 0)) ∧ w' = W) := fun W hW u => find_c (hb.below hW (Nat.le_refl _)) u
  have HS : Hid (∀ u : Nat, 1 ≤ u → u < 64 → ¬ (u = v ∧ 0 < v) → ¬ (ch = true ∧ u / 2 = v ∧ 1 < u) →
    (findN u (la.map fun z => z.1.num) 0 = -1 ∧ findN u (lb.map fun z => z.1.num) 0 = -1) ∨
    ∃ i j : Nat, ∃ hi : i < la.length, ∃ hj : j < lb.length, findN u (la.map fun z => z.1.num) 0 = (i : Int) ∧ findN u (lb.map fun z => z.1.num) 0 = (j : Int) ∧ (lb[j]).1 = (la[i]).1) := by
    intro u h1 h64 n1 n2
    have e1 : (la.map fun z => z.1).map (fun d => d.num) = la.map fun z => z.1.num := by simp [List.map_map, Function.comp_def]
    have e2 : (lb.map fun z => z.1).map (fun d => d.num) = lb.map fun z => z.1.num := by simp [List.map_map, Function.comp_def]
    have := hs u h1 h64 n1 n2
    rw [e1, e2] at this
    rcases this with h | ⟨i, j, hi, hj, a, b, d⟩
    · exact Or.inl h
    · refine Or.inr ⟨i, j, by simpa using hi, by simpa using hj, a, b, ?_⟩
      simpa using d
  obtain ⟨aa, ca, rfl, a1, a2, a3, a4⟩ := ownsRow_cells ha.row
  obtain ⟨ab, cb, rfl, b1, b2, b3, b4⟩ := ownsRow_cells hb.row
  have RA : Hid _ := ha
  have RB : Hid _ := hb
  unfold maxLen at a2 a3 b2 b3
  clear ha hb hs a4 b4
  generalize hvi : (v : Int) = vi
  go_enter Try.func41, Try.ntmps41
  go_wp2_with fail
  go_loopw [9, 10, 11, 12] (fun nn _ _ _ wr => ∃ u : Nat, 1 ≤ u ∧ u ≤ 64 ∧ nn = .int .i64 u ∧ Below w.heap.size w wr) (fun nn _ _ _ _ => 64 - (intOf nn).toNat)
  case atStart => exact ⟨1, by omega, by omega, rfl, Below.refl _ _⟩
  case round =>
    obtain ⟨u, h1, h64, rfl, hbr⟩ := hrel
    by_cases hlt : u < 64
    · have hso := HS.out u h1 hlt
      clear HS
      replace hso : Hid _ := hso
      have bl : decide ((u : Int) < 64) = true := decide_eq_true (by omega)
      by_cases n1 : u = v ∧ 0 < v
      · have t1 : ((u : Int) == vi) = true := by rw [beq_iff_eq]; have := n1.1; omega
        have t2 : decide ((0 : Int) < vi) = true := decide_eq_true (by have := n1.2; omega)
        clear n1 hso RA RB HA HB
        replace hvi : Hid _ := hvi
        go_wp2_with fail
        go_roundw
        case rel => exact ⟨u + 1, by omega, by omega, by go_num, hbr⟩
        case measure => simp [intOf]; omega
      · have t1 : ((u : Int) == vi) = false := by rw [beq_eq_false_iff_ne]; intro e; exact n1 ⟨by omega, by omega⟩
        by_cases n2 : ch = true ∧ u / 2 = v ∧ 1 < u
        · obtain ⟨rfl, e2, e3⟩ := n2
          have t3 : decide ((1 : Int) < (u : Int)) = true := decide_eq_true (by omega)
          have t4 : ((u : Int) / 2 == vi) = true := by rw [beq_iff_eq]; omega
          clear hso RA RB HA HB n1 e2
          replace hvi : Hid _ := hvi
          go_wp2_with fail
          go_roundw
          case rel => exact ⟨u + 1, by omega, by omega, by go_num, hbr⟩
          case measure => simp [intOf]; omega
        · have hc : ch = false ∨ (ch = true ∧ ¬ u / 2 = v) ∨ (ch = true ∧ u / 2 = v ∧ ¬ 1 < u) := by
            cases ch
            · exact Or.inl rfl
            · by_cases e2 : u / 2 = v
              · exact Or.inr (Or.inr ⟨rfl, e2, fun h => n2 ⟨rfl, e2, h⟩⟩)
              · exact Or.inr (Or.inl ⟨rfl, e2⟩)
          have hso2 := hso.out n1 n2
          clear hso n1 n2
          replace hso2 : Hid _ := hso2
          have hvh : Hid (vi = (v : Int)) := hvi.symm
          clear hvi
          rcases hc with rfl | ⟨rfl, e2⟩ | ⟨rfl, e2, e3⟩
          · go_wp2_with fail
            have hfa := HA.out _ hbr (u : Int)
            have hfb := HB.out _ hbr (u : Int)
            rcases hso2.out with ⟨f1, f2⟩ | ⟨i, j, hi, hj, f1, f2, hd⟩
            · rw [f1] at hfa
              rw [f2] at hfb
              replace hfa : Hid _ := hfa
              replace hfb : Hid _ := hfb
              clear hso2 f1 f2 RA RB HA HB
              go_wp2_with fail
              refine Calls.mono hfa.out ?_
              rintro e w9 ⟨rfl, rfl⟩
              go_wp2_with fail
              refine Calls.mono hfb.out ?_
              rintro e w9 ⟨rfl, rfl⟩
              go_wp2_with fail
              go_roundw
              case rel => exact ⟨u + 1, by omega, by omega, by go_num, hbr⟩
              case measure => simp [intOf]; omega
            · rw [f1] at hfa
              rw [f2] at hfb
              replace hfa : Hid _ := hfa
              replace hfb : Hid _ := hfb
              obtain ⟨g, e1, l1, f⟩ := nodes_at RA.out i hi
              obtain ⟨g', e2, l2, f'⟩ := nodes_at RB.out j hj
              have e3 := e1 _ _ _ rfl
              have e4 := e2 _ _ _ rfl
              subst e3 e4
              clear e1 e2
              have r1 := RA.out.waiting la[i] (List.getElem_mem _)
              have r2 := RA.out.items la[i] (List.getElem_mem _)
              have r3 := RB.out.waiting lb[j] (List.getElem_mem _)
              have r4 := RB.out.items lb[j] (List.getElem_mem _)
              rw [hd] at r3 r4 f'
              generalize la[i] = y at *
              generalize lb[j] = y' at *
              obtain ⟨d, wv, iv⟩ := y
              obtain ⟨d', wv', iv'⟩ := y'
              simp only at hd r1 r2 r3 r4 f f'
              have HC := fun W (hb : Below w.heap.size w W) => ksameNode_c (ownsRow_below r1 hb (Nat.le_refl _)) (ownsRow_below r3 hb (Nat.le_refl _)) (ownsRow_below r2 hb (Nat.le_refl _)) (ownsRow_below r4 hb (Nat.le_refl _))
              replace HC : Hid _ := HC
              obtain ⟨ao1, c1, rfl, _⟩ := row_cells r1
              obtain ⟨ao2, c2, rfl, _⟩ := row_cells r2
              obtain ⟨ao3, c3, rfl, _⟩ := row_cells r3
              obtain ⟨ao4, c4, rfl, _⟩ := row_cells r4
              have F := fun k hk => (hbr.cell (p := ⟨g, i * 12 + k, none⟩) l1).trans (f k hk)
              have F' := fun k hk => (hbr.cell (p := ⟨g', j * 12 + k, none⟩) l2).trans (f' k hk)
              obtain ⟨num, dep, rk, inner, sh, ins, tog, wid, wt, pu, ge, its⟩ := d
              have p0 := F 0 (by omega); have p1 := F 1 (by omega); have p2 := F 2 (by omega); have p3 := F 3 (by omega); have p4 := F 4 (by omega); have p5 := F 5 (by omega)
              have p6 := F 6 (by omega); have p7 := F 7 (by omega); have p8 := F 8 (by omega); have p9 := F 9 (by omega); have p10 := F 10 (by omega); have p11 := F 11 (by omega)
              have q0 := F' 0 (by omega); have q1 := F' 1 (by omega); have q2 := F' 2 (by omega); have q3 := F' 3 (by omega); have q4 := F' 4 (by omega); have q5 := F' 5 (by omega)
              have q6 := F' 6 (by omega); have q7 := F' 7 (by omega); have q8 := F' 8 (by omega); have q9 := F' 9 (by omega); have q10 := F' 10 (by omega); have q11 := F' 11 (by omega)
              simp only [ndCells, Nat.add_zero] at p0 p1 p2 p3 p4 p5 p6 p7 p8 p9 p10 p11 q0 q1 q2 q3 q4 q5 q6 q7 q8 q9 q10 q11
              clear F F' f f' hd r1 r2 r3 r4 RA RB hso2 f1 f2 HA HB
              have bi : decide ((i : Int) < 0) = false := decide_eq_false (by omega)
              have bj : decide ((j : Int) < 0) = false := decide_eq_false (by omega)
              go_wp2_with fail
              refine Calls.mono hfa.out ?_
              rintro e w9 ⟨rfl, rfl⟩
              go_wp2_with fail
              refine Calls.mono hfb.out ?_
              rintro e w9 ⟨rfl, rfl⟩
              go_wp2_with fail
              go_region_with (go_at_call 54; refine (HC.out _ (by first | exact hbr | exact hbr.drew)).mono ?_; rintro x w3 ⟨rfl, hb5⟩)
              all_goals
                have hb6 : Below w.heap.size w w3 := hbr.drew.trans (hb5.mono hbr.size)
                clear hb5
                go_wp2_with fail
                go_roundw
                case rel => exact ⟨u + 1, by omega, by omega, by go_num, hb6⟩
                case measure => simp [intOf]; omega
          · have t3 : ((u : Int) / 2 == vi) = false := by rw [beq_eq_false_iff_ne]; have := hvh.out; omega
            go_wp2_with fail
            have hfa := HA.out _ hbr (u : Int)
            have hfb := HB.out _ hbr (u : Int)
            rcases hso2.out with ⟨f1, f2⟩ | ⟨i, j, hi, hj, f1, f2, hd⟩
            · rw [f1] at hfa
              rw [f2] at hfb
              replace hfa : Hid _ := hfa
              replace hfb : Hid _ := hfb
              clear hso2 f1 f2 RA RB HA HB
              go_wp2_with fail
              refine Calls.mono hfa.out ?_
              rintro e w9 ⟨rfl, rfl⟩
              go_wp2_with fail
              refine Calls.mono hfb.out ?_
              rintro e w9 ⟨rfl, rfl⟩
              go_wp2_with fail
              go_roundw
              case rel => exact ⟨u + 1, by omega, by omega, by go_num, hbr⟩
              case measure => simp [intOf]; omega
            · rw [f1] at hfa
              rw [f2] at hfb
              replace hfa : Hid _ := hfa
              replace hfb : Hid _ := hfb
              obtain ⟨g, e1, l1, f⟩ := nodes_at RA.out i hi
              obtain ⟨g', e2, l2, f'⟩ := nodes_at RB.out j hj
              have e3 := e1 _ _ _ rfl
              have e4 := e2 _ _ _ rfl
              subst e3 e4
              clear e1 e2
              have r1 := RA.out.waiting la[i] (List.getElem_mem _)
              have r2 := RA.out.items la[i] (List.getElem_mem _)
              have r3 := RB.out.waiting lb[j] (List.getElem_mem _)
              have r4 := RB.out.items lb[j] (List.getElem_mem _)
              rw [hd] at r3 r4 f'
              generalize la[i] = y at *
              generalize lb[j] = y' at *
              obtain ⟨d, wv, iv⟩ := y
              obtain ⟨d', wv', iv'⟩ := y'
              simp only at hd r1 r2 r3 r4 f f'
              have HC := fun W (hb : Below w.heap.size w W) => ksameNode_c (ownsRow_below r1 hb (Nat.le_refl _)) (ownsRow_below r3 hb (Nat.le_refl _)) (ownsRow_below r2 hb (Nat.le_refl _)) (ownsRow_below r4 hb (Nat.le_refl _))
              replace HC : Hid _ := HC
              obtain ⟨ao1, c1, rfl, _⟩ := row_cells r1
              obtain ⟨ao2, c2, rfl, _⟩ := row_cells r2
              obtain ⟨ao3, c3, rfl, _⟩ := row_cells r3
              obtain ⟨ao4, c4, rfl, _⟩ := row_cells r4
              have F := fun k hk => (hbr.cell (p := ⟨g, i * 12 + k, none⟩) l1).trans (f k hk)
              have F' := fun k hk => (hbr.cell (p := ⟨g', j * 12 + k, none⟩) l2).trans (f' k hk)
              obtain ⟨num, dep, rk, inner, sh, ins, tog, wid, wt, pu, ge, its⟩ := d
              have p0 := F 0 (by omega); have p1 := F 1 (by omega); have p2 := F 2 (by omega); have p3 := F 3 (by omega); have p4 := F 4 (by omega); have p5 := F 5 (by omega)
              have p6 := F 6 (by omega); have p7 := F 7 (by omega); have p8 := F 8 (by omega); have p9 := F 9 (by omega); have p10 := F 10 (by omega); have p11 := F 11 (by omega)
              have q0 := F' 0 (by omega); have q1 := F' 1 (by omega); have q2 := F' 2 (by omega); have q3 := F' 3 (by omega); have q4 := F' 4 (by omega); have q5 := F' 5 (by omega)
              have q6 := F' 6 (by omega); have q7 := F' 7 (by omega); have q8 := F' 8 (by omega); have q9 := F' 9 (by omega); have q10 := F' 10 (by omega); have q11 := F' 11 (by omega)
              simp only [ndCells, Nat.add_zero] at p0 p1 p2 p3 p4 p5 p6 p7 p8 p9 p10 p11 q0 q1 q2 q3 q4 q5 q6 q7 q8 q9 q10 q11
              clear F F' f f' hd r1 r2 r3 r4 RA RB hso2 f1 f2 HA HB
              have bi : decide ((i : Int) < 0) = false := decide_eq_false (by omega)
              have bj : decide ((j : Int) < 0) = false := decide_eq_false (by omega)
              go_wp2_with fail
              refine Calls.mono hfa.out ?_
              rintro e w9 ⟨rfl, rfl⟩
              go_wp2_with fail
              refine Calls.mono hfb.out ?_
              rintro e w9 ⟨rfl, rfl⟩
              go_wp2_with fail
              go_region_with (go_at_call 54; refine (HC.out _ (by first | exact hbr | exact hbr.drew)).mono ?_; rintro x w3 ⟨rfl, hb5⟩)
              all_goals
                have hb6 : Below w.heap.size w w3 := hbr.drew.trans (hb5.mono hbr.size)
                clear hb5
                go_wp2_with fail
                go_roundw
                case rel => exact ⟨u + 1, by omega, by omega, by go_num, hb6⟩
                case measure => simp [intOf]; omega
          · have t3 : decide ((1 : Int) < (u : Int)) = false := decide_eq_false (by omega)
            have t4 : ((u : Int) / 2 == vi) = true := by rw [beq_iff_eq]; have := hvh.out; omega
            go_wp2_with fail
            have hfa := HA.out _ hbr (u : Int)
            have hfb := HB.out _ hbr (u : Int)
            rcases hso2.out with ⟨f1, f2⟩ | ⟨i, j, hi, hj, f1, f2, hd⟩
            · rw [f1] at hfa
              rw [f2] at hfb
              replace hfa : Hid _ := hfa
              replace hfb : Hid _ := hfb
              clear hso2 f1 f2 RA RB HA HB
              go_wp2_with fail
              refine Calls.mono hfa.out ?_
              rintro e w9 ⟨rfl, rfl⟩
              go_wp2_with fail
              refine Calls.mono hfb.out ?_
              rintro e w9 ⟨rfl, rfl⟩
              go_wp2_with fail
              go_roundw
              case rel => exact ⟨u + 1, by omega, by omega, by go_num, hbr⟩
              case measure => simp [intOf]; omega
            · rw [f1] at hfa
              rw [f2] at hfb
              replace hfa : Hid _ := hfa
              replace hfb : Hid _ := hfb
              obtain ⟨g, e1, l1, f⟩ := nodes_at RA.out i hi
              obtain ⟨g', e2, l2, f'⟩ := nodes_at RB.out j hj
              have e3 := e1 _ _ _ rfl
              have e4 := e2 _ _ _ rfl
              subst e3 e4
              clear e1 e2
              have r1 := RA.out.waiting la[i] (List.getElem_mem _)
              have r2 := RA.out.items la[i] (List.getElem_mem _)
              have r3 := RB.out.waiting lb[j] (List.getElem_mem _)
              have r4 := RB.out.items lb[j] (List.getElem_mem _)
              rw [hd] at r3 r4 f'
              generalize la[i] = y at *
              generalize lb[j] = y' at *
              obtain ⟨d, wv, iv⟩ := y
              obtain ⟨d', wv', iv'⟩ := y'
              simp only at hd r1 r2 r3 r4 f f'
              have HC := fun W (hb : Below w.heap.size w W) => ksameNode_c (ownsRow_below r1 hb (Nat.le_refl _)) (ownsRow_below r3 hb (Nat.le_refl _)) (ownsRow_below r2 hb (Nat.le_refl _)) (ownsRow_below r4 hb (Nat.le_refl _))
              replace HC : Hid _ := HC
              obtain ⟨ao1, c1, rfl, _⟩ := row_cells r1
              obtain ⟨ao2, c2, rfl, _⟩ := row_cells r2
              obtain ⟨ao3, c3, rfl, _⟩ := row_cells r3
              obtain ⟨ao4, c4, rfl, _⟩ := row_cells r4
              have F := fun k hk => (hbr.cell (p := ⟨g, i * 12 + k, none⟩) l1).trans (f k hk)
              have F' := fun k hk => (hbr.cell (p := ⟨g', j * 12 + k, none⟩) l2).trans (f' k hk)
              obtain ⟨num, dep, rk, inner, sh, ins, tog, wid, wt, pu, ge, its⟩ := d
              have p0 := F 0 (by omega); have p1 := F 1 (by omega); have p2 := F 2 (by omega); have p3 := F 3 (by omega); have p4 := F 4 (by omega); have p5 := F 5 (by omega)
              have p6 := F 6 (by omega); have p7 := F 7 (by omega); have p8 := F 8 (by omega); have p9 := F 9 (by omega); have p10 := F 10 (by omega); have p11 := F 11 (by omega)
              have q0 := F' 0 (by omega); have q1 := F' 1 (by omega); have q2 := F' 2 (by omega); have q3 := F' 3 (by omega); have q4 := F' 4 (by omega); have q5 := F' 5 (by omega)
              have q6 := F' 6 (by omega); have q7 := F' 7 (by omega); have q8 := F' 8 (by omega); have q9 := F' 9 (by omega); have q10 := F' 10 (by omega); have q11 := F' 11 (by omega)
              simp only [ndCells, Nat.add_zero] at p0 p1 p2 p3 p4 p5 p6 p7 p8 p9 p10 p11 q0 q1 q2 q3 q4 q5 q6 q7 q8 q9 q10 q11
              clear F F' f f' hd r1 r2 r3 r4 RA RB hso2 f1 f2 HA HB
              have bi : decide ((i : Int) < 0) = false := decide_eq_false (by omega)
              have bj : decide ((j : Int) < 0) = false := decide_eq_false (by omega)
              go_wp2_with fail
              refine Calls.mono hfa.out ?_
              rintro e w9 ⟨rfl, rfl⟩
              go_wp2_with fail
              refine Calls.mono hfb.out ?_
              rintro e w9 ⟨rfl, rfl⟩
              go_wp2_with fail
              go_region_with (go_at_call 54; refine (HC.out _ (by first | exact hbr | exact hbr.drew)).mono ?_; rintro x w3 ⟨rfl, hb5⟩)
              all_goals
                have hb6 : Below w.heap.size w w3 := hbr.drew.trans (hb5.mono hbr.size)
                clear hb5
                go_wp2_with fail
                go_roundw
                case rel => exact ⟨u + 1, by omega, by omega, by go_num, hb6⟩
                case measure => simp [intOf]; omega
    · have bl : decide ((u : Int) < 64) = false := decide_eq_false (by omega)
      clear HS HA HB RA RB
      go_wp2_with fail
      go_ret
      exact ⟨rfl, hbr⟩

end Go.Proofs.Ytjnmpejcegmkhab
