/- What one Step of the document's tree does: to the process that steps, to the others, to the nodes. No statement of the seat is proved here. A hand and the document's tree beside it, in no memory: the contract of package prismkeep's spawn, step, rest and play. No statement of the seat is proved here. A new hand. No statement of the seat is proved here. -/
import Derived.Test.YtjnmpejcegmkhabDBoth
import Derived.Test.YtjnmpejcegmkhabDRestA
namespace Go.Proofs.Ytjnmpejcegmkhab
open Go.RowKit

def toPPs (ps : Prs) : List PP := ps.map fun x => toPP x.2

/-- From phase a at node v to phase b at node nd. -/
def PM (v : Nat) (a b nd : Int) : Prop :=
  (a = 0 ∧ b = 1 ∧ nd = (v : Int)) ∨ (a = 1 ∧ nd = (v : Int) ∧ (b = 2 ∨ b = 3 ∨ b = 12 ∨ b = 19)) ∨ (a = 1 ∧ (b = 0 ∨ b = 15) ∧ nd / 2 = (v : Int)) ∨ (a = 2 ∧ b = 0 ∧ nd = (v : Int)) ∨ (a = 3 ∧ b = 4 ∧ nd = (v : Int)) ∨ (a = 4 ∧ nd = (v : Int) ∧ (b = 5 ∨ b = 8 ∨ b = 11)) ∨ (a = 5 ∧ nd = (v : Int) ∧ (b = 6 ∨ b = 9)) ∨ (a = 6 ∧ nd = (v : Int) ∧ (b = 7 ∨ b = 6 ∨ b = 10)) ∨ (b = 0 ∧ (a = 7 ∨ a = 8 ∨ a = 11) ∧ nd / 2 = (v : Int)) ∨ (b = 19 ∧ nd = (v : Int) ∧ (a = 7 ∨ a = 8)) ∨ (a = 8 ∧ b = 9 ∧ nd = (v : Int)) ∨ (b = 11 ∧ nd = (v : Int) ∧ (a = 9 ∨ a = 10)) ∨ (a = 12 ∧ nd = (v : Int) ∧ (b = 19 ∨ b = 13 ∨ b = 14)) ∨ (a = 13 ∧ nd = (v : Int) ∧ (b = 19 ∨ b = 13)) ∨ (a = 14 ∧ nd = (v : Int) ∧ (b = 19 ∨ b = 14)) ∨ (a = 15 ∧ b = 16 ∧ nd = (v : Int)) ∨ (a = 16 ∧ nd = (v : Int) ∧ (b = 17 ∨ b = 16 ∨ b = 18)) ∨ (b = 19 ∧ nd = (v : Int) / 2 ∧ (a = 15 ∨ a = 17 ∨ a = 18 ∨ a = 19) ∧ (v : Int) / 2 ≠ 0) ∨ (b = 20 ∧ nd = 0 ∧ (a = 15 ∨ a = 17 ∨ a = 18 ∨ a = 19) ∧ (v : Int) / 2 = 0)
theorem PM.enter {v : Nat} : PM v 0 1 v := Or.inl ⟨rfl, rfl, rfl⟩
theorem PM.look {v : Nat} (b : Int) (hb : b = 2 ∨ b = 3 ∨ b = 12 ∨ b = 19) : PM v 1 b v := Or.inr (Or.inl ⟨rfl, rfl, hb⟩)
theorem PM.lookDown {v : Nat} (b nd : Int) (hb : b = 0 ∨ b = 15) (hn : nd / 2 = v) : PM v 1 b nd := Or.inr (Or.inr (Or.inl ⟨rfl, hb, hn⟩))
theorem PM.back {v : Nat} : PM v 2 0 v := Or.inr (Or.inr (Or.inr (Or.inl ⟨rfl, rfl, rfl⟩)))
theorem PM.wide {v : Nat} : PM v 3 4 v := Or.inr (Or.inr (Or.inr (Or.inr (Or.inl ⟨rfl, rfl, rfl⟩))))
theorem PM.slot {v : Nat} (b : Int) (hb : b = 5 ∨ b = 8 ∨ b = 11) : PM v 4 b v := Or.inr (Or.inr (Or.inr (Or.inr (Or.inr (Or.inl ⟨rfl, rfl, hb⟩)))))
theorem PM.claim {v : Nat} (b : Int) (hb : b = 6 ∨ b = 9) : PM v 5 b v := Or.inr (Or.inr (Or.inr (Or.inr (Or.inr (Or.inr (Or.inl ⟨rfl, rfl, hb⟩))))))
theorem PM.wait {v : Nat} (b : Int) (hb : b = 7 ∨ b = 6 ∨ b = 10) : PM v 6 b v := Or.inr (Or.inr (Or.inr (Or.inr (Or.inr (Or.inr (Or.inr (Or.inl ⟨rfl, rfl, hb⟩)))))))
theorem PM.down {v : Nat} (a nd : Int) (ha : a = 7 ∨ a = 8 ∨ a = 11) (hn : nd / 2 = v) : PM v a 0 nd := Or.inr (Or.inr (Or.inr (Or.inr (Or.inr (Or.inr (Or.inr (Or.inr (Or.inl ⟨rfl, ha, hn⟩))))))))
theorem PM.out {v : Nat} (a : Int) (ha : a = 7 ∨ a = 8) : PM v a 19 v := Or.inr (Or.inr (Or.inr (Or.inr (Or.inr (Or.inr (Or.inr (Or.inr (Or.inr (Or.inl ⟨rfl, rfl, ha⟩)))))))))
theorem PM.grow {v : Nat} : PM v 8 9 v := Or.inr (Or.inr (Or.inr (Or.inr (Or.inr (Or.inr (Or.inr (Or.inr (Or.inr (Or.inr (Or.inl ⟨rfl, rfl, rfl⟩))))))))))
theorem PM.width {v : Nat} (a : Int) (ha : a = 9 ∨ a = 10) : PM v a 11 v := Or.inr (Or.inr (Or.inr (Or.inr (Or.inr (Or.inr (Or.inr (Or.inr (Or.inr (Or.inr (Or.inr (Or.inl ⟨rfl, rfl, ha⟩)))))))))))
theorem PM.ticket {v : Nat} (b : Int) (hb : b = 19 ∨ b = 13 ∨ b = 14) : PM v 12 b v := Or.inr (Or.inr (Or.inr (Or.inr (Or.inr (Or.inr (Or.inr (Or.inr (Or.inr (Or.inr (Or.inr (Or.inr (Or.inl ⟨rfl, rfl, hb⟩))))))))))))
theorem PM.store {v : Nat} (b : Int) (hb : b = 19 ∨ b = 13) : PM v 13 b v := Or.inr (Or.inr (Or.inr (Or.inr (Or.inr (Or.inr (Or.inr (Or.inr (Or.inr (Or.inr (Or.inr (Or.inr (Or.inr (Or.inl ⟨rfl, rfl, hb⟩)))))))))))))
theorem PM.fetch {v : Nat} (b : Int) (hb : b = 19 ∨ b = 14) : PM v 14 b v := Or.inr (Or.inr (Or.inr (Or.inr (Or.inr (Or.inr (Or.inr (Or.inr (Or.inr (Or.inr (Or.inr (Or.inr (Or.inr (Or.inr (Or.inl ⟨rfl, rfl, hb⟩))))))))))))))
theorem PM.shut {v : Nat} : PM v 15 16 v := Or.inr (Or.inr (Or.inr (Or.inr (Or.inr (Or.inr (Or.inr (Or.inr (Or.inr (Or.inr (Or.inr (Or.inr (Or.inr (Or.inr (Or.inr (Or.inl ⟨rfl, rfl, rfl⟩)))))))))))))))
theorem PM.drain {v : Nat} (b : Int) (hb : b = 17 ∨ b = 16 ∨ b = 18) : PM v 16 b v := Or.inr (Or.inr (Or.inr (Or.inr (Or.inr (Or.inr (Or.inr (Or.inr (Or.inr (Or.inr (Or.inr (Or.inr (Or.inr (Or.inr (Or.inr (Or.inr (Or.inl ⟨rfl, rfl, hb⟩))))))))))))))))
theorem PM.up {v : Nat} (a : Int) (ha : a = 15 ∨ a = 17 ∨ a = 18 ∨ a = 19) (hv : (v : Int) / 2 ≠ 0) : PM v a 19 ((v : Int) / 2) := Or.inr (Or.inr (Or.inr (Or.inr (Or.inr (Or.inr (Or.inr (Or.inr (Or.inr (Or.inr (Or.inr (Or.inr (Or.inr (Or.inr (Or.inr (Or.inr (Or.inr (Or.inl ⟨rfl, rfl, ha, hv⟩)))))))))))))))))
theorem PM.done {v : Nat} (a : Int) (ha : a = 15 ∨ a = 17 ∨ a = 18 ∨ a = 19) (hv : (v : Int) / 2 = 0) : PM v a 20 0 := Or.inr (Or.inr (Or.inr (Or.inr (Or.inr (Or.inr (Or.inr (Or.inr (Or.inr (Or.inr (Or.inr (Or.inr (Or.inr (Or.inr (Or.inr (Or.inr (Or.inr (Or.inr (⟨rfl, rfl, ha, hv⟩))))))))))))))))))
theorem PM.elim {v : Nat} {motive : ∀ a b nd, PM v a b nd → Prop} (enter : motive 0 1 v (PM.enter)) (look : ∀ (b : Int) (hb : b = 2 ∨ b = 3 ∨ b = 12 ∨ b = 19), motive 1 b v (PM.look b hb)) (lookDown : ∀ (b nd : Int) (hb : b = 0 ∨ b = 15) (hn : nd / 2 = v), motive 1 b nd (PM.lookDown b nd hb hn)) (back : motive 2 0 v (PM.back)) (wide : motive 3 4 v (PM.wide)) (slot : ∀ (b : Int) (hb : b = 5 ∨ b = 8 ∨ b = 11), motive 4 b v (PM.slot b hb)) (claim : ∀ (b : Int) (hb : b = 6 ∨ b = 9), motive 5 b v (PM.claim b hb)) (wait : ∀ (b : Int) (hb : b = 7 ∨ b = 6 ∨ b = 10), motive 6 b v (PM.wait b hb)) (down : ∀ (a nd : Int) (ha : a = 7 ∨ a = 8 ∨ a = 11) (hn : nd / 2 = v), motive a 0 nd (PM.down a nd ha hn)) (out : ∀ (a : Int) (ha : a = 7 ∨ a = 8), motive a 19 v (PM.out a ha)) (grow : motive 8 9 v (PM.grow)) (width : ∀ (a : Int) (ha : a = 9 ∨ a = 10), motive a 11 v (PM.width a ha)) (ticket : ∀ (b : Int) (hb : b = 19 ∨ b = 13 ∨ b = 14), motive 12 b v (PM.ticket b hb)) (store : ∀ (b : Int) (hb : b = 19 ∨ b = 13), motive 13 b v (PM.store b hb)) (fetch : ∀ (b : Int) (hb : b = 19 ∨ b = 14), motive 14 b v (PM.fetch b hb)) (shut : motive 15 16 v (PM.shut)) (drain : ∀ (b : Int) (hb : b = 17 ∨ b = 16 ∨ b = 18), motive 16 b v (PM.drain b hb)) (up : ∀ (a : Int) (ha : a = 15 ∨ a = 17 ∨ a = 18 ∨ a = 19) (hv : (v : Int) / 2 ≠ 0), motive a 19 ((v : Int) / 2) (PM.up a ha hv)) (done : ∀ (a : Int) (ha : a = 15 ∨ a = 17 ∨ a = 18 ∨ a = 19) (hv : (v : Int) / 2 = 0), motive a 20 0 (PM.done a ha hv)) {a b nd : Int} (h : PM v a b nd) : motive a b nd h := by
  rcases h with ⟨rfl, rfl, rfl⟩ | ⟨rfl, rfl, hb⟩ | ⟨rfl, hb, hn⟩ | ⟨rfl, rfl, rfl⟩ | ⟨rfl, rfl, rfl⟩ | ⟨rfl, rfl, hb⟩ | ⟨rfl, rfl, hb⟩ | ⟨rfl, rfl, hb⟩ | ⟨rfl, ha, hn⟩ | ⟨rfl, rfl, ha⟩ | ⟨rfl, rfl, rfl⟩ | ⟨rfl, rfl, ha⟩ | ⟨rfl, rfl, hb⟩ | ⟨rfl, rfl, hb⟩ | ⟨rfl, rfl, hb⟩ | ⟨rfl, rfl, rfl⟩ | ⟨rfl, rfl, hb⟩ | ⟨rfl, rfl, ha, hv⟩ | ⟨rfl, rfl, ha, hv⟩
  · exact enter
  · exact look _ hb
  · exact lookDown _ _ hb hn
  · exact back
  · exact wide
  · exact slot _ hb
  · exact claim _ hb
  · exact wait _ hb
  · exact down _ _ ha hn
  · exact out _ ha
  · exact grow
  · exact width _ ha
  · exact ticket _ hb
  · exact store _ hb
  · exact fetch _ hb
  · exact shut
  · exact drain _ hb
  · exact up _ ha hv
  · exact done _ ha hv
theorem PM.of {v : Nat} {a b nd a' b' nd' : Int} (h : PM v a b nd) (ea : a' = a) (eb : b' = b) (en : nd' = nd) : PM v a' b' nd' := by subst ea eb en; exact h

structure Went (L : Lay) (i v : Nat) (p p' : Pr) (L' : Lay) : Prop where
  procs : toPPs L'.procs = (toPPs L.procs).set i (toPP p')
  hist : ∀ u, u ≠ v → (p.phase = 17 → u ≠ 2 * v ∧ u ≠ 2 * v + 1) → L'.hist u = L.hist u
  past : L'.past.length = L.past.length
  c : L'.c = L.c
  op : p'.kind = p.kind ∧ p'.oval = p.oval ∧ p'.onode = p.onode
  pm : PM v p.phase p'.phase p'.node
  slot : (p.phase ≠ 3 ∧ p'.slot = p.slot) ∨ (0 ≤ p'.slot ∧ p'.slot < L.c.width)

theorem toPPs_setP (L : Lay) (i : Nat) (p : Pr) : toPPs (L.setP i p).procs = (toPPs L.procs).set i (toPP p) := by simp [toPPs, List.map_set]
theorem hap_len (L : Lay) (v : Nat) (x : Value) (ev : Ev) (iv : Value) : (L.hap v x ev iv).past.length = L.past.length := by simp

section
variable {c : Conf} {L : Lay} {P : PLay} {i v : Nat} {p : Pr} {n : PN}

theorem went_set (q p' : Pr) (hop : p'.kind = p.kind ∧ p'.oval = p.oval ∧ p'.onode = p.onode) (hpm : PM v p.phase p'.phase p'.node) (hsl : (p.phase ≠ 3 ∧ p'.slot = p.slot) ∨ (0 ≤ p'.slot ∧ p'.slot < L.c.width)) : Went L i v p p' ((L.setP i q).setP i p') :=
  ⟨by rw [toPPs_setP, toPPs_setP, List.set_set], fun _ _ _ => rfl, rfl, rfl, hop, hpm, hsl⟩
theorem went_stay (p' : Pr) (hop : p'.kind = p.kind ∧ p'.oval = p.oval ∧ p'.onode = p.onode) (hpm : PM v p.phase p'.phase p'.node) (hsl : (p.phase ≠ 3 ∧ p'.slot = p.slot) ∨ (0 ≤ p'.slot ∧ p'.slot < L.c.width)) : Went L i v p p' (L.setP i p') :=
  ⟨toPPs_setP _ _ _, fun _ _ _ => rfl, rfl, rfl, hop, hpm, hsl⟩
theorem went_hap (hv : v < L.past.length) (q p' : Pr) (x : Value) (ev : Ev) (iv : Value) (hop : p'.kind = p.kind ∧ p'.oval = p.oval ∧ p'.onode = p.onode) (hpm : PM v p.phase p'.phase p'.node) (hsl : (p.phase ≠ 3 ∧ p'.slot = p.slot) ∨ (0 ≤ p'.slot ∧ p'.slot < L.c.width)) : Went L i v p p' (((L.setP i q).hap v x ev iv).setP i p') :=
  ⟨by rw [toPPs_setP]; show (toPPs (L.setP i q).procs).set i _ = _; rw [toPPs_setP, List.set_set], fun u hu _ => by
    have := hist_hap (L.setP i q) v u x ev iv hv
    rw [if_neg hu] at this
    exact this, by simp, rfl, hop, hpm, hsl⟩
theorem went_meet {j : Nat} (q p' y y' : Pr) (hj : j < L.procs.length) (hy : (L.procs[j]).2 = y) (hyy : toPP y' = toPP y) (hji : j ≠ i) (hop : p'.kind = p.kind ∧ p'.oval = p.oval ∧ p'.onode = p.onode) (hpm : PM v p.phase p'.phase p'.node) (hsl : (p.phase ≠ 3 ∧ p'.slot = p.slot) ∨ (0 ≤ p'.slot ∧ p'.slot < L.c.width)) : Went L i v p p' (((L.setP i q).setP j y').setP i p') := by
  refine ⟨?_, fun _ _ _ => rfl, rfl, rfl, hop, hpm, hsl⟩
  rw [toPPs_setP, toPPs_setP, toPPs_setP, hyy]
  have e : toPP y = (toPPs L.procs)[j]'(by simpa [toPPs] using hj) := by simp [toPPs, hy]
  rw [List.set_comm _ _ hji, List.set_set, List.set_comm _ _ (Ne.symm hji), e, List.set_getElem_self]

theorem Here.kidtw (h : Here c L P i v p n) (ck : CK c L P) (hph : p.phase = 1) (hk : ¬ p.kind < 3) : (((towards 6 p.onode.toNat v : Nat) : Int)) / 2 = (v : Int) := by
  have hq := ck.ci.cq i h.hi
  rw [h.ep] at hq
  obtain ⟨a1, a2, a3⟩ := hq.chg (by omega)
  have hcf := h.rel.confs
  have hlt : p.onode.toNat < 32 := by
    have : 2 ^ c.depth.toNat ≤ 2 ^ 4 := Nat.pow_le_pow_right (by omega) (by omega)
    omega
  have hab : above v p.onode.toNat := by
    rcases a3 with a3 | a3 | a3
    · rw [h.toNat] at a3
      exact a3.2
    · omega
    · omega
  have := (tw_facts ⟨p.onode.toNat, hlt⟩ ⟨v, h.v32⟩ h.v1 hab).2.2.1
  simp only at this
  omega

theorem ite_look (q : Prop) [Decidable q] : (if q then (3 : Int) else 12) = 2 ∨ (if q then (3 : Int) else 12) = 3 ∨ (if q then (3 : Int) else 12) = 12 ∨ (if q then (3 : Int) else 12) = 19 := by split <;> simp
theorem ite_down (q : Prop) [Decidable q] : (if q then (15 : Int) else 0) = 0 ∨ (if q then (15 : Int) else 0) = 15 := by split <;> simp

theorem settled_pm (q y : Pr) (b : Int) (hb : b = 0 ∨ b = 1) (hn : q.node = (v : Int)) (a : Int) (ha : a = 7 ∨ a = 8) : (settledPr q y b).kind = q.kind ∧ (settledPr q y b).oval = q.oval ∧ (settledPr q y b).onode = q.onode ∧ PM v a (settledPr q y b).phase (settledPr q y b).node ∧ (settledPr q y b).slot = q.slot := by
  unfold settledPr
  split
  · exact ⟨rfl, rfl, rfl, .down a _ (by omega) (by show (2 * q.node + b) / 2 = (v : Int); omega), rfl⟩
  · split
    · exact ⟨rfl, rfl, rfl, (PM.out a ha).of rfl rfl hn, rfl⟩
    · exact ⟨rfl, rfl, rfl, (PM.out a ha).of rfl rfl hn, rfl⟩

theorem up_pm (q : Pr) (hn : q.node = (v : Int)) (a : Int) (ha : a = 15 ∨ a = 17 ∨ a = 18 ∨ a = 19) : PM v a (upPr q).phase (upPr q).node := by
  unfold upPr
  simp only
  rw [hn]
  by_cases e : (v : Int) / 2 = 0
  · rw [if_pos e, e]; exact .done a ha e
  · rw [if_neg e]; exact .up a ha e

theorem Here.went (h : Here c L P i v p n) (ck : CK c L P) (draw : Int) : ∃ p', Went L i v p p' (lstep L i draw) := by
  have hv := h.vN
  have ha := h.at'
  have hph := h.q.phase
  have hlive := h.live
  rw [h.lat draw, h.lget]
  simp only
  have hcases : p.phase = 0 ∨ p.phase = 1 ∨ p.phase = 2 ∨ p.phase = 3 ∨ p.phase = 4 ∨ p.phase = 5 ∨ p.phase = 6 ∨ p.phase = 7 ∨ p.phase = 15 ∨ p.phase = 16 ∨ p.phase = 18 ∨ p.phase = 19 ∨ p.phase = 8 ∨ p.phase = 9 ∨ p.phase = 10 ∨ p.phase = 11 ∨ p.phase = 12 ∨ p.phase = 13 ∨ p.phase = 14 ∨ p.phase = 17 := by omega
  have hmv : p.phase ≠ 8 ∧ p.phase ≠ 9 ∧ p.phase ≠ 10 ∧ p.phase ≠ 11 ∧ p.phase ≠ 12 ∧ p.phase ≠ 13 ∧ p.phase ≠ 14 ∧ p.phase ≠ 17 → ((lmove (L.setP i (incPr p)) v (incPr p) draw).kind = p.kind ∧ (lmove (L.setP i (incPr p)) v (incPr p) draw).oval = p.oval ∧ (lmove (L.setP i (incPr p)) v (incPr p) draw).onode = p.onode) ∧ PM v p.phase (lmove (L.setP i (incPr p)) v (incPr p) draw).phase (lmove (L.setP i (incPr p)) v (incPr p) draw).node ∧ ((p.phase ≠ 3 ∧ (lmove (L.setP i (incPr p)) v (incPr p) draw).slot = p.slot) ∨ (0 ≤ (lmove (L.setP i (incPr p)) v (incPr p) draw).slot ∧ (lmove (L.setP i (incPr p)) v (incPr p) draw).slot < L.c.width)) := by
    intro hno
    unfold lmove
    have ein : (incPr p).phase = p.phase := rfl
    rw [ein]
    by_cases e0 : p.phase = 0
    · rw [if_pos e0]
      exact ⟨⟨rfl, rfl, rfl⟩, PM.enter.of e0 rfl ha, Or.inl ⟨by omega, rfl⟩⟩
    rw [if_neg e0]
    by_cases e1 : p.phase = 1
    · rw [if_pos e1]
      split
      · exact ⟨⟨rfl, rfl, rfl⟩, (PM.look 2 (by omega)).of e1 rfl ha, Or.inl ⟨by omega, rfl⟩⟩
      · split
        · exact ⟨⟨rfl, rfl, rfl⟩, (PM.look _ (ite_look _)).of e1 rfl ha, Or.inl ⟨by omega, rfl⟩⟩
        · rename_i hk3
          split
          · have hkd := h.kidtw ck e1 hk3
            exact ⟨⟨rfl, rfl, rfl⟩, (PM.lookDown (v := v) _ _ (ite_down _) hkd).of e1 rfl rfl, Or.inl ⟨by omega, rfl⟩⟩
          · exact ⟨⟨rfl, rfl, rfl⟩, (PM.look 19 (by omega)).of e1 rfl ha, Or.inl ⟨by omega, rfl⟩⟩
    rw [if_neg e1]
    by_cases e2 : p.phase = 2
    · rw [if_pos e2]
      exact ⟨⟨rfl, rfl, rfl⟩, PM.back.of e2 rfl ha, Or.inl ⟨by omega, rfl⟩⟩
    rw [if_neg e2]
    by_cases e3 : p.phase = 3
    · rw [if_pos e3]
      have hf := h.inner (by omega) (by omega)
      obtain ⟨_, _, hw1, hw2, hw3, _⟩ := h.nr.inn hf
      have hc := h.rel.cL
      have ew : widthH ((L.setP i (incPr p)).hist v) = widthH (L.hist v) := rfl
      refine ⟨⟨rfl, rfl, rfl⟩, PM.wide.of e3 rfl ha, Or.inr ⟨?_, ?_⟩⟩
      · exact Int.emod_nonneg _ (by rw [ew]; omega)
      · rw [hc]
        have := Int.emod_lt_of_pos draw (show 0 < widthH (L.hist v) by omega)
        show draw % widthH (L.hist v) < c.width
        omega
    rw [if_neg e3]
    by_cases e4 : p.phase = 4
    · rw [if_pos e4]
      split
      · exact ⟨⟨rfl, rfl, rfl⟩, (PM.slot 5 (by omega)).of e4 rfl ha, Or.inl ⟨by omega, rfl⟩⟩
      · rename_i hw
        obtain ⟨k, hk, hs⟩ := h.slotk
        have hf := h.inner (by omega) (by omega)
        have hwl := (h.inc.slotRel hf hk).waits
        have hsr := h.inc.slotRel hf hk
        have hlt : ∃ j : Nat, waitsL v (incPr p).slot (L.setP i (incPr p)).procs 0 = (j : Int) ∧ j < (L.setP i (incPr p)).procs.length := by
          have es : (incPr p).slot = (k : Int) := hs
          rw [es] at hw ⊢
          rcases hsr with ⟨s0, _⟩ | ⟨j, hj, a1, _, _, a4⟩
          · rcases hwl with ⟨_, x⟩ | ⟨x, _⟩
            · rw [x] at hw; omega
            · omega
          · rcases hwl with ⟨x, _⟩ | ⟨_, x⟩
            · rcases a4 with a4 | a4 <;> omega
            · exact ⟨j, by rw [x, a1], hj⟩
        obtain ⟨j, hj, hjl⟩ := hlt
        rw [hj, Int.toNat_natCast, List.getElem?_eq_getElem hjl]
        simp only
        split
        · exact ⟨⟨rfl, rfl, rfl⟩, (PM.slot 11 (by omega)).of e4 rfl ha, Or.inl ⟨by omega, rfl⟩⟩
        · exact ⟨⟨rfl, rfl, rfl⟩, (PM.slot 8 (by omega)).of e4 rfl ha, Or.inl ⟨by omega, rfl⟩⟩
    rw [if_neg e4]
    by_cases e5 : p.phase = 5
    · rw [if_pos e5]
      split
      · exact ⟨⟨rfl, rfl, rfl⟩, (PM.claim 6 (by omega)).of e5 rfl ha, Or.inl ⟨by omega, rfl⟩⟩
      · exact ⟨⟨rfl, rfl, rfl⟩, (PM.claim 9 (by omega)).of e5 rfl ha, Or.inl ⟨by omega, rfl⟩⟩
    rw [if_neg e5]
    by_cases e6 : p.phase = 6
    · rw [if_pos e6]
      unfold waitPr
      split
      · exact ⟨⟨rfl, rfl, rfl⟩, (PM.wait 7 (by omega)).of e6 rfl ha, Or.inl ⟨by omega, rfl⟩⟩
      · split
        · exact ⟨⟨rfl, rfl, rfl⟩, (PM.wait 6 (by omega)).of e6 e6 ha, Or.inl ⟨by omega, rfl⟩⟩
        · exact ⟨⟨rfl, rfl, rfl⟩, (PM.wait 10 (by omega)).of e6 rfl ha, Or.inl ⟨by omega, rfl⟩⟩
    rw [if_neg e6]
    by_cases e7 : p.phase = 7
    · rw [if_pos e7]
      have hf := h.inner (by omega) (by omega)
      obtain ⟨k, hk, hs⟩ := h.slotk
      obtain ⟨_, hm⟩ := h.mine (Or.inr e7) hk hs hf
      rcases hm with ⟨_, x, _⟩ | ⟨s2, b, by1, m2, hb, hbi⟩
      · omega
      have hb1 : b < (L.setP i (incPr p)).procs.length := by simpa using hb
      have em : (incPr p).met = (b : Int) := m2
      rw [em, Int.toNat_natCast, List.getElem?_eq_getElem hb1]
      simp only
      obtain ⟨x1, x2, x3, x4, x5⟩ := settled_pm (v := v) { incPr p with met := -1 } ((L.setP i (incPr p)).procs[b]).2 0 (Or.inl rfl) ha 7 (Or.inl rfl)
      exact ⟨⟨x1, x2, x3⟩, by rw [e7]; exact x4, Or.inl ⟨by omega, x5⟩⟩
    rw [if_neg e7]
    by_cases e15 : p.phase = 15
    · rw [if_pos e15]
      unfold shutCh
      split
      · exact ⟨⟨rfl, rfl, rfl⟩, up_pm _ (by exact ha) _ (by omega), Or.inl ⟨by omega, rfl⟩⟩
      · exact ⟨⟨rfl, rfl, rfl⟩, PM.shut.of e15 rfl ha, Or.inl ⟨by omega, rfl⟩⟩
    rw [if_neg e15]
    by_cases e16 : p.phase = 16
    · rw [if_pos e16]
      unfold drainCh
      split
      · exact ⟨⟨rfl, rfl, rfl⟩, (PM.drain 17 (by omega)).of e16 rfl ha, Or.inl ⟨by omega, rfl⟩⟩
      · split
        · exact ⟨⟨rfl, rfl, rfl⟩, (PM.drain 16 (by omega)).of e16 e16 ha, Or.inl ⟨by omega, rfl⟩⟩
        · exact ⟨⟨rfl, rfl, rfl⟩, (PM.drain 18 (by omega)).of e16 rfl ha, Or.inl ⟨by omega, rfl⟩⟩
    rw [if_neg e16]
    by_cases e18 : p.phase = 18
    · rw [if_pos e18]
      exact ⟨⟨rfl, rfl, rfl⟩, up_pm _ (by exact ha) _ (by omega), Or.inl ⟨by omega, rfl⟩⟩
    rw [if_neg e18]
    have e19 : p.phase = 19 := by omega
    rw [if_pos e19]
    exact ⟨⟨rfl, rfl, rfl⟩, up_pm _ (by exact ha) _ (by omega), Or.inl ⟨by omega, rfl⟩⟩
  by_cases e8 : p.phase = 8
  · rw [if_pos e8]
    obtain ⟨j, mj, hj, hji⟩ := h.q.mind e8
    rw [mj, Int.toNat_natCast, List.getElem?_eq_getElem hj]
    simp only
    split
    · obtain ⟨x1, x2, x3, x4, x5⟩ := settled_pm (v := v) (incPr p) (L.procs[j]).2 1 (Or.inr rfl) ha 8 (Or.inr rfl)
      exact ⟨_, went_meet _ _ (L.procs[j]).2 _ hj rfl rfl hji ⟨x1, x2, x3⟩ (by rw [e8]; exact x4) (Or.inl ⟨by omega, x5⟩)⟩
    · exact ⟨_, went_set _ _ ⟨rfl, rfl, rfl⟩ (PM.grow.of e8 rfl ha) (Or.inl ⟨by omega, rfl⟩)⟩
  rw [if_neg e8]
  by_cases e9 : p.phase = 9
  · rw [if_pos e9]
    exact ⟨_, went_hap hv _ _ _ _ _ ⟨rfl, rfl, rfl⟩ ((PM.width 9 (by omega)).of e9 rfl ha) (Or.inl ⟨by omega, rfl⟩)⟩
  rw [if_neg e9]
  by_cases e10 : p.phase = 10
  · rw [if_pos e10]
    exact ⟨_, went_hap hv _ _ _ _ _ ⟨rfl, rfl, rfl⟩ ((PM.width 10 (by omega)).of e10 rfl ha) (Or.inl ⟨by omega, rfl⟩)⟩
  rw [if_neg e10]
  by_cases e11 : p.phase = 11
  · rw [if_pos e11]
    refine ⟨_, went_hap hv _ _ _ _ _ ⟨rfl, rfl, rfl⟩ ?_ (Or.inl ⟨by omega, rfl⟩)⟩
    have ht : togH (L.hist v) = 0 ∨ togH (L.hist v) = 1 := by unfold togH; omega
    have hk : ∀ t : Int, t = 0 ∨ t = 1 → (2 * p.node + t) / 2 = (v : Int) := by intro t ht; omega
    have htt : (if p.kind = 2 then (togH (L.hist v) + 1) % 2 else togH (L.hist v)) = 0 ∨ (if p.kind = 2 then (togH (L.hist v) + 1) % 2 else togH (L.hist v)) = 1 := by split <;> omega
    exact (PM.down (v := v) 11 _ (by omega) (hk _ htt)).of e11 rfl rfl
  rw [if_neg e11]
  by_cases e12 : p.phase = 12
  · rw [if_pos e12]
    split
    · exact ⟨_, went_hap hv _ _ _ _ _ ⟨rfl, rfl, rfl⟩ ((PM.ticket 19 (by omega)).of e12 rfl ha) (Or.inl ⟨by omega, rfl⟩)⟩
    · split
      · exact ⟨_, went_hap hv _ _ _ _ _ ⟨rfl, rfl, rfl⟩ ((PM.ticket 13 (by omega)).of e12 rfl ha) (Or.inl ⟨by omega, rfl⟩)⟩
      · exact ⟨_, went_hap hv _ _ _ _ _ ⟨rfl, rfl, rfl⟩ ((PM.ticket 14 (by omega)).of e12 rfl ha) (Or.inl ⟨by omega, rfl⟩)⟩
  rw [if_neg e12]
  by_cases e13 : p.phase = 13
  · rw [if_pos e13]
    split
    · exact ⟨_, went_hap hv _ _ _ _ _ ⟨rfl, rfl, rfl⟩ ((PM.store 19 (by omega)).of e13 rfl ha) (Or.inl ⟨by omega, rfl⟩)⟩
    · exact ⟨_, went_stay _ ⟨rfl, rfl, rfl⟩ ((PM.store 13 (by omega)).of e13 e13 ha) (Or.inl ⟨by omega, rfl⟩)⟩
  rw [if_neg e13]
  by_cases e14 : p.phase = 14
  · rw [if_pos e14]
    split
    · exact ⟨_, went_hap hv _ _ _ _ _ ⟨rfl, rfl, rfl⟩ ((PM.fetch 19 (by omega)).of e14 rfl ha) (Or.inl ⟨by omega, rfl⟩)⟩
    · exact ⟨_, went_stay _ ⟨rfl, rfl, rfl⟩ ((PM.fetch 14 (by omega)).of e14 e14 ha) (Or.inl ⟨by omega, rfl⟩)⟩
  rw [if_neg e14]
  by_cases e17 : p.phase = 17
  · rw [if_pos e17]
    have hk : 2 * v + 1 < L.past.length := (h.target17 ck e17).kid
    split
    · refine ⟨upPr { incPr p with val := 1 }, by rw [toPPs_setP]; show (toPPs (L.setP i (incPr p)).procs).set i _ = _; rw [toPPs_setP, List.set_set], fun u hu hu2 => ?_, by simp, rfl, ⟨rfl, rfl, rfl⟩, up_pm { incPr p with val := 1 } (by exact ha) p.phase (by omega), Or.inl ⟨by omega, rfl⟩⟩
      obtain ⟨u1, u2⟩ := hu2 e17
      show ((L.setP i (incPr p)).unfolded v nilV nilV nilV nilV nilV).hist u = L.hist u
      unfold Lay.unfolded
      rw [hap_hist _ _ _ _ _ _ (by simp; omega) u2, hap_hist _ _ _ _ _ _ (by simp; omega) u1, hap_hist _ _ _ _ _ _ (by exact hv) hu]
      rfl
    · split
      · exact ⟨_, went_set _ _ ⟨rfl, rfl, rfl⟩ (up_pm _ (by exact ha) _ (by omega)) (Or.inl ⟨by omega, rfl⟩)⟩
      · refine ⟨upPr { incPr p with val := 1 }, by rw [toPPs_setP]; show (toPPs (L.setP i (incPr p)).procs).set i _ = _; rw [toPPs_setP, List.set_set], fun u hu hu2 => ?_, by simp, rfl, ⟨rfl, rfl, rfl⟩, up_pm { incPr p with val := 1 } (by exact ha) p.phase (by omega), Or.inl ⟨by omega, rfl⟩⟩
        obtain ⟨u1, u2⟩ := hu2 e17
        show ((L.setP i (incPr p)).folded v nilV nilV nilV nilV).hist u = L.hist u
        unfold Lay.folded
        rw [hap_hist _ _ _ _ _ _ (by simp; omega) (by assumption), hap_hist _ _ _ _ _ _ (by simp; omega) (by assumption), hap_hist _ _ _ _ _ _ (by simp; omega) (by assumption)]
        rfl
  rw [if_neg e17]
  obtain ⟨m1, m2, m3⟩ := hmv ⟨e8, e9, e10, e11, e12, e13, e14, e17⟩
  exact ⟨_, went_set _ _ m1 m2 m3⟩
end

theorem PM.behind {v : Nat} {a b nd : Int} (h : PM v a b nd) : amongTo b (behindL a) = true := by
  cases h using PM.elim with
  | enter => decide
  | look b hb => rcases hb with rfl | rfl | rfl | rfl <;> decide
  | lookDown b nd hb hn => rcases hb with rfl | rfl <;> decide
  | back => decide
  | wide => decide
  | slot b hb => rcases hb with rfl | rfl | rfl <;> decide
  | claim b hb => rcases hb with rfl | rfl <;> decide
  | wait b hb => rcases hb with rfl | rfl | rfl <;> decide
  | down a nd ha hn => rcases ha with rfl | rfl | rfl <;> decide
  | out a ha => rcases ha with rfl | rfl <;> decide
  | grow => decide
  | width a ha => rcases ha with rfl | rfl <;> decide
  | ticket b hb => rcases hb with rfl | rfl | rfl <;> decide
  | store b hb => rcases hb with rfl | rfl <;> decide
  | fetch b hb => rcases hb with rfl | rfl <;> decide
  | shut => decide
  | drain b hb => rcases hb with rfl | rfl | rfl <;> decide
  | up a ha hv => rcases ha with rfl | rfl | rfl | rfl <;> decide
  | done a ha hv => rcases ha with rfl | rfl | rfl | rfl <;> decide

end Go.Proofs.Ytjnmpejcegmkhab

namespace Go.Proofs.Ytjnmpejcegmkhab
open Go.RowKit

/-- The document's tree, what was begun, who has stepped. -/
structure Gh where
  L : Lay
  ops : List Op3
  went : List Bool

def phaseAt (L : Lay) (i : Nat) : Int := (L.procs.getD i (0, newPr ⟨0, 0, 0⟩)).2.phase
def gspawn (c : Conf) (S : Gh) (o : Op3) : Gh :=
  letI := okOpDec c o; if okOp c o ∧ S.L.procs.length < 256 ∧ (liveL S.L.procs : Int) < c.procs then ⟨{ S.L with procs := S.L.procs ++ [(0, newPr o)] }, S.ops ++ [o], S.went ++ [false]⟩ else S
def gstep (S : Gh) (p draw : Int) : Gh :=
  if 0 ≤ p ∧ p < S.L.procs.length ∧ phaseAt S.L p.toNat ≠ 20 then ⟨lstep S.L p.toNat draw, S.ops, S.went.set p.toNat true⟩ else S
def grest (S : Gh) (r draw : Int) : Gh :=
  if 0 ≤ r ∧ r ≤ 100 then ⟨lrest S.L (draw % 12) r.toNat, S.ops, if r = 0 then S.went else S.went.map fun _ => true⟩ else S
def wantK (k a b : Int) : Op3 :=
  if k = 1 then ⟨0, 0, 0⟩ else if k = 2 then ⟨1, a, 0⟩ else if k = 3 then ⟨2, 0, 0⟩ else if k = 4 then ⟨3, 0, a⟩ else if k = 5 then ⟨4, 0, a⟩ else ⟨a, b, b⟩
def gplay (c : Conf) (S : Gh) (k a b : Int) : Gh :=
  if k = 8 then gstep S a b else if k = 9 then grest S a b else if 1 ≤ k ∧ k ≤ 6 then gspawn c S (wantK k a b) else S

def ppOp (q : PP) : Op3 := ⟨q.kind, q.oval, q.onode⟩
def opsL (L : Lay) : List Op3 := (toPPs L.procs).map ppOp

/-- Who is about a slot is about one that there is. -/
def SlotOk (L : Lay) : Prop := ∀ i, (hi : i < L.procs.length) → 4 ≤ (L.procs[i]).2.phase → (L.procs[i]).2.phase ≤ 10 → 0 ≤ (L.procs[i]).2.slot ∧ (L.procs[i]).2.slot < L.c.width

/-- A process that has not stepped is as it was begun; each is of the operation that was begun. -/
structure OpsOf (S : Gh) : Prop where
  wlen : S.went.length = S.L.procs.length
  op : S.ops = opsL S.L
  slot : SlotOk S.L
  new : ∀ i, (hi : i < S.L.procs.length) → (hi' : i < S.went.length) → S.went[i] = false → (S.L.procs[i]).2.phase = (newPr ⟨(S.L.procs[i]).2.kind, (S.L.procs[i]).2.oval, (S.L.procs[i]).2.onode⟩).phase ∧ (S.L.procs[i]).2.node = 1 ∧ (S.L.procs[i]).2.val = 0

structure KSt (w : World) (B hb : Nat) (c : Conf) (S : Gh) (P : PLay) : Prop where
  rep : KRep w B hb P S.ops S.went
  rel : CRel c S.L P
  hB : B ≤ w.heap.size
  of : OpsOf S

theorem KSt.below {w w' : World} {B hb : Nat} {c : Conf} {S : Gh} {P : PLay} (h : KSt w B hb c S P) (hb' : Below w.heap.size w w') : KSt w' B hb c S P :=
  ⟨h.rep.below hb', h.rel, Nat.le_trans h.hB hb'.size, h.of⟩
theorem KSt.deep {w : World} {B hb : Nat} {c : Conf} {S : Gh} {P : PLay} (h : KSt w B hb c S P) : 0 ≤ P.c.depth ∧ P.c.depth ≤ 4 := by
  have := h.rel.rel.confs
  rw [h.rel.rel.cP]
  omega
theorem KSt.told {w : World} {B hb : Nat} {c : Conf} {S : Gh} {P : PLay} (h : KSt w B hb c S P) (i : Nat) (hi : i < S.L.procs.length) : toldP P i = ((S.L.procs[i]).2.phase, (S.L.procs[i]).2.node, (S.L.procs[i]).2.val) := by
  have hp := h.rel.plen
  unfold toldP
  rw [if_pos ⟨by omega, by omega⟩, Int.toNat_natCast]
  have e : P.procs.getD i zeroPP = toPP (S.L.procs[i]).2 := by
    rw [h.rel.rel.procs, List.getD_eq_getElem?_getD, List.getElem?_map, List.getElem?_eq_getElem hi]
    rfl
  rw [e]
  rfl

abbrev KT : List TypeId := [81, 101, 108, 51, 4, 41]

theorem hspawn_c {w : World} {B hb : Nat} {c : Conf} {S : Gh} {P : PLay} (h : KSt w B hb c S P) (o : Op3) :
    Calls Try.prog 28 #[.pointer (some ⟨hb, 0, none⟩), opV o] w fun e w' => e = .returned (.bool true) ∧ (∃ P', KSt w' B hb c (gspawn c S o) P') ∧ ChgT B KT w w' := by
  obtain ⟨d0, d4⟩ := h.deep
  have lvP : pliveL P.procs = liveL S.L.procs := plive_w h.rel.rel
  have hpl := h.rel.plen
  have cP := h.rel.rel.cP
  unfold opV
  by_cases hok : okOp c o ∧ S.L.procs.length < 256 ∧ (liveL S.L.procs : Int) < c.procs
  · have okP : okOp P.c o := by rw [cP]; exact hok.1
    have hn : P.procs.length < 256 := by omega
    have hlv : (pliveL P.procs : Int) < P.c.procs := by rw [lvP, cP]; exact hok.2.2
    have hre : refusalK P ⟨o.kind, o.val, o.node⟩ = 0 := by
      unfold refusalK
      rw [if_neg (by simpa using okP), if_neg (by omega), if_neg (by omega)]
    refine (kspawn_ok h.rep h.hB o.kind o.val o.node d0 d4 hre hn (fun W hW hB => pspawn_yes hW hB o okP d0 d4 hn hlv)).mono ?_
    rintro e w' ⟨rfl, ⟨y, hk⟩, hc⟩
    refine ⟨rfl, ⟨{ P with pv := y, procs := P.procs ++ [newPP ⟨o.kind, o.val, o.node⟩] }, ?_⟩, hc.mono (Nat.le_refl _) (by simp)⟩
    have eg : gspawn c S o = ⟨{ S.L with procs := S.L.procs ++ [(0, newPr o)] }, S.ops ++ [o], S.went ++ [false]⟩ := by unfold gspawn; rw [if_pos hok]
    rw [eg]
    refine ⟨hk, ?_, Nat.le_trans h.hB hc.size, ?_⟩
    · exact h.rel.push o hok.1 0 S.L.pv y hok.2.1 hok.2.2
    · have ho := h.of
      refine ⟨by simp [ho.wlen], ?_, fun i hi h4 h10 => ?_, fun i hi hi' hw => ?_⟩
      · show S.ops ++ [o] = opsL { S.L with procs := S.L.procs ++ [(0, newPr o)] }
        rw [ho.op]
        simp [opsL, toPPs, ppOp, toPP, newPr]
      · simp only [List.length_append, List.length_cons, List.length_nil] at hi
        by_cases e : i < S.L.procs.length
        · simp only [List.getElem_append_left e] at h4 h10 ⊢
          exact ho.slot i e h4 h10
        · have e' : i = S.L.procs.length := by omega
          subst e'
          simp only [List.getElem_append_right (Nat.le_refl _), Nat.sub_self, List.getElem_cons_zero] at h4 h10
          rcases new_phase o with x | x <;> omega
      · simp only [List.length_append, List.length_cons, List.length_nil] at hi hi'
        by_cases e : i < S.L.procs.length
        · have e2 : i < S.went.length := by have := ho.wlen; omega
          simp only [List.getElem_append_left e] at hw ⊢
          rw [List.getElem_append_left e2] at hw
          exact ho.new i e e2 hw
        · have e' : i = S.L.procs.length := by omega
          subst e'
          simp only [List.getElem_append_right (Nat.le_refl _), Nat.sub_self, List.getElem_cons_zero]
          exact ⟨rfl, rfl, rfl⟩
  · have eg : gspawn c S o = S := by unfold gspawn; rw [if_neg hok]
    rw [eg]
    have fin : ∀ e0 : Int, e0 ≠ 0 → refusalK P ⟨o.kind, o.val, o.node⟩ = e0 → (∀ W, PRep W B P → Calls Try.prog 49 #[.pointer (some ⟨P.tb, 0, none⟩), opV o] W fun x w' => x = .returned (.tuple #[I 0, I e0]) ∧ Below W.heap.size W w') →
        Calls Try.prog 28 #[.pointer (some ⟨hb, 0, none⟩), .agg #[I o.kind, I o.val, I o.node]] w fun e w' => e = .returned (.bool true) ∧ (∃ P', KSt w' B hb c S P') ∧ ChgT B KT w w' := by
      intro e0 h0 hre hs
      refine (kspawn_err h.rep o.kind o.val o.node d0 d4 e0 hre h0 hs).mono ?_
      rintro e w' ⟨rfl, hb'⟩
      exact ⟨rfl, ⟨P, h.below hb'⟩, ChgT.of_below hb'⟩
    by_cases h1 : okOp c o
    · have okP : okOp P.c o := by rw [cP]; exact h1
      by_cases h2 : S.L.procs.length < 256
      · have h3 : ¬ (liveL S.L.procs : Int) < c.procs := fun h3 => hok ⟨h1, h2, h3⟩
        have hlv : P.c.procs ≤ (pliveL P.procs : Int) := by rw [lvP, cP]; omega
        refine fin 4 (by omega) ?_ fun W hW => pspawn_err4 hW o okP d0 d4 (by omega) hlv
        unfold refusalK
        rw [if_neg (by simpa using okP), if_neg (by omega), if_pos hlv]
      · refine fin 3 (by omega) ?_ fun W hW => pspawn_err3 hW o okP d0 d4 (by have := h.rel.rel.np; omega)
        unfold refusalK
        rw [if_neg (by simpa using okP), if_pos (by omega)]
    · refine fin 2 (by omega) ?_ fun W hW => pspawn_err2 hW o (by rw [cP]; exact h1) d0 d4
      unfold refusalK
      rw [if_pos (by rw [cP]; exact h1)]

theorem opsL_went {L L' : Lay} {i v : Nat} {p p' : Pr} (h : Went L i v p p' L') (hi : i < L.procs.length) (hp : (L.procs[i]).2 = p) : opsL L' = opsL L := by
  unfold opsL
  rw [h.procs, List.map_set]
  have e : ppOp (toPP p') = ((toPPs L.procs).map ppOp)[i]'(by simpa [toPPs] using hi) := by
    simp only [List.getElem_map, toPPs, hp]
    obtain ⟨a, b, d⟩ := h.op
    simp [ppOp, toPP, a, b, d]
  rw [e, List.set_getElem_self]
theorem toPPs_len (ps : Prs) : (toPPs ps).length = ps.length := by simp [toPPs]
theorem toPPs_at (ps : Prs) (j : Nat) (hj : j < ps.length) (hj' : j < (toPPs ps).length) : (toPPs ps)[j] = toPP (ps[j]).2 := by simp [toPPs]
theorem went_other {L L' : Lay} {i v : Nat} {p p' : Pr} (h : Went L i v p p' L') (j : Nat) (hj : j < L.procs.length) (hj' : j < L'.procs.length) (hji : j ≠ i) : toPP (L'.procs[j]).2 = toPP (L.procs[j]).2 := by
  rw [← toPPs_at L'.procs j hj' (by rw [toPPs_len]; exact hj'), ← toPPs_at L.procs j hj (by rw [toPPs_len]; exact hj)]
  have : ∀ (l : List PP) (hl : l = (toPPs L.procs).set i (toPP p')) (h1 : j < l.length) (h2 : j < (toPPs L.procs).length), l[j] = (toPPs L.procs)[j] := by
    intro l hl h1 h2
    subst hl
    rw [List.getElem_set_ne (Ne.symm hji)]
  exact this _ h.procs _ _
theorem went_self {L L' : Lay} {i v : Nat} {p p' : Pr} (h : Went L i v p p' L') (hi' : i < L'.procs.length) : toPP (L'.procs[i]).2 = toPP p' := by
  rw [← toPPs_at L'.procs i hi' (by rw [toPPs_len]; exact hi')]
  have : ∀ (l : List PP) (hl : l = (toPPs L.procs).set i (toPP p')) (h1 : i < l.length), l[i] = toPP p' := by
    intro l hl h1
    subst hl
    rw [List.getElem_set_self]
  exact this _ h.procs _
theorem went_len {L L' : Lay} {i v : Nat} {p p' : Pr} (h : Went L i v p p' L') : L'.procs.length = L.procs.length := by
  have := congrArg List.length h.procs
  simpa [toPPs] using this
theorem pp_told {p q : Pr} (h : toPP p = toPP q) : p.kind = q.kind ∧ p.oval = q.oval ∧ p.onode = q.onode ∧ p.phase = q.phase ∧ p.node = q.node ∧ p.val = q.val ∧ p.slot = q.slot := by
  unfold toPP at h
  simp only [PP.mk.injEq] at h
  omega

theorem slot_went {L L' : Lay} {i v : Nat} {p p' : Pr} (h : Went L i v p p' L') (hi : i < L.procs.length) (hp : (L.procs[i]).2 = p) (hs : SlotOk L) : SlotOk L' := by
  intro j hj h4 h10
  have hl := went_len h
  by_cases e : j = i
  · subst e
    obtain ⟨_, _, _, x4, _, _, x7⟩ := pp_told (went_self h hj)
    rw [x4] at h4 h10
    rw [x7, h.c]
    rcases h.slot with ⟨n3, a⟩ | ⟨a, b⟩
    · rw [a]
      have hb : 4 ≤ p.phase ∧ p.phase ≤ 10 := by
        have hpm := h.pm
        generalize p.phase = x at *
        generalize p'.phase = y at *
        generalize p'.node = z at *
        cases hpm <;> omega
      have := hs j hi (by rw [hp]; exact hb.1) (by rw [hp]; exact hb.2)
      rw [hp] at this
      exact this
    · exact ⟨a, b⟩
  · obtain ⟨_, _, _, x4, _, _, x7⟩ := pp_told (went_other h j (by omega) hj e)
    rw [x4] at h4 h10
    rw [x7, h.c]
    exact hs j (by omega) h4 h10

theorem phaseAt_eq (L : Lay) (i : Nat) (hi : i < L.procs.length) : phaseAt L i = (L.procs[i]).2.phase := by
  unfold phaseAt
  rw [List.getD_eq_getElem?_getD, List.getElem?_eq_getElem hi]
  rfl

theorem hstep_c {w : World} {B hb : Nat} {c : Conf} {S : Gh} {P : PLay} (h : KSt w B hb c S P) (p draw : Int) :
    Calls Try.prog 25 #[.pointer (some ⟨hb, 0, none⟩), I p, I draw] w fun e w' => e = .returned (.bool true) ∧ (∃ P', KSt w' B hb c (gstep S p draw) P') ∧ ChgT B KT w w' := by
  have hpl := h.rel.plen
  have same : gstep S p draw = S → (Calls Try.prog 25 #[.pointer (some ⟨hb, 0, none⟩), I p, I draw] w fun e w' => e = .returned (.bool true) ∧ Below w.heap.size w w') → Calls Try.prog 25 #[.pointer (some ⟨hb, 0, none⟩), I p, I draw] w fun e w' => e = .returned (.bool true) ∧ (∃ P', KSt w' B hb c (gstep S p draw) P') ∧ ChgT B KT w w' := by
    intro eg hc
    rw [eg]
    refine hc.mono ?_
    rintro e w' ⟨rfl, hb'⟩
    exact ⟨rfl, ⟨P, h.below hb'⟩, ChgT.of_below hb'⟩
  by_cases hin : 0 ≤ p ∧ p < S.L.procs.length
  · obtain ⟨i, rfl⟩ := Int.eq_ofNat_of_zero_le hin.1
    have hi : i < S.L.procs.length := by omega
    have hiP : i < P.procs.length := by omega
    have htd := h.told i hi
    by_cases h20 : (S.L.procs[i]).2.phase = 20
    · refine same ?_ (kstep_done h.rep i hiP (by rw [htd]; exact h20) draw fun W hW => ?_)
      · unfold gstep
        rw [if_neg]
        rintro ⟨_, _, x⟩
        rw [Int.toNat_natCast, phaseAt_eq S.L i hi] at x
        exact x h20
      · have hv0 : 0 < P.nodes.length := by rw [h.rel.rel.plen]; omega
        obtain ⟨g, hf⟩ := PF.start hW hv0 hiP
        refine pStep_done hf ?_ draw
        have : P.procs[i] = toPP (S.L.procs[i]).2 := by simp [h.rel.rel.procs]
        rw [this]
        exact h20
    · obtain ⟨v, n, hh⟩ := h.rel.rel.here hi h20
      obtain ⟨p', hwt⟩ := hh.went h.rel.ck draw
      obtain ⟨ph, hps, _, _⟩ := h.rel.next (B := B) hi h20 draw
      have hlen' := went_len hwt
      have hph := hh.q.phase
      have eg : gstep S i draw = ⟨lstep S.L i draw, S.ops, S.went.set i true⟩ := by
        unfold gstep
        rw [if_pos ⟨hin.1, hin.2, by rw [Int.toNat_natCast, phaseAt_eq S.L i hi]; exact h20⟩, Int.toNat_natCast]
      have hF : ∀ P' : PLay, (P'.tb = P.tb ∧ CRel c (lstep S.L i draw) P') → P'.tb = P.tb ∧ P'.c = P.c ∧ P'.procs.length = P.procs.length ∧ (P'.procs.getD i zeroPP).phase = p'.phase := by
        rintro P' ⟨a, b⟩
        have hl' := b.plen
        refine ⟨a, by rw [b.rel.cP, h.rel.rel.cP], by omega, ?_⟩
        have e : P'.procs.getD i zeroPP = toPP ((lstep S.L i draw).procs[i]'(by omega)).2 := by
          rw [b.rel.procs, List.getD_eq_getElem?_getD, List.getElem?_map, List.getElem?_eq_getElem (by omega)]
          rfl
        rw [e, went_self hwt (by omega)]
        rfl
      have hsr := fun W (hW : PRep W B P) (hBW : B ≤ W.heap.size) => pStep_ret (B := B) hiP (by rw [show P.procs[i] = toPP (S.L.procs[i]).2 by simp [h.rel.rel.procs]]; exact h20) draw (F := fun P' => P'.tb = P.tb ∧ CRel c (lstep S.L i draw) P') (fun P' hP' => ⟨(hF P' hP').1, (hF P' hP').2.2.1⟩) hps.1 hW hBW
      rw [eg]
      refine (kstep_run h.rep h.hB i hiP draw p'.phase (S.L.procs[i]).2.phase (by rw [htd]) hph.1 (by omega) hwt.pm.behind (fun P' => P'.tb = P.tb ∧ CRel c (lstep S.L i draw) P') ?_ ?_).mono ?_
      · intro P' hP'
        obtain ⟨a, b, d, e⟩ := hF P' hP'
        refine ⟨a, b, d, ?_⟩
        unfold toldP
        rw [if_pos ⟨by omega, by omega⟩, Int.toNat_natCast]
        exact e
      · intro W hW hBW
        refine (hsr W hW hBW).mono ?_
        rintro x w' ⟨⟨P', rfl, hP', hr⟩, hc⟩
        exact ⟨by rw [(hF P' hP').2.2.2], ⟨P', hP', hr⟩, hc⟩
      · rintro e w' ⟨rfl, ⟨P', hP', hr⟩, hc⟩
        refine ⟨rfl, ⟨P', hr, hP'.2, Nat.le_trans h.hB hc.size, ?_⟩, hc.mono (Nat.le_refl _) (by simp)⟩
        refine ⟨by simp only [List.length_set]; rw [hlen']; exact h.of.wlen, by show S.ops = opsL (lstep S.L i draw); rw [opsL_went hwt hi rfl]; exact h.of.op, slot_went hwt hi rfl h.of.slot, fun j hj hj' hw => ?_⟩
        simp only at hj hj' hw ⊢
        by_cases e : j = i
        · subst e
          rw [List.getElem_set_self] at hw
          exact absurd hw (by simp)
        · rw [List.getElem_set_ne (Ne.symm e)] at hw
          have hjL : j < S.L.procs.length := by omega
          obtain ⟨x1, x2, x3, x4, x5, x6, _⟩ := pp_told (went_other hwt j hjL hj e)
          have := h.of.new j hjL (by have := h.of.wlen; omega) hw
          rw [x1, x2, x3, x4, x5, x6]
          exact this
  · refine same ?_ (kstep_none h.rep p (by omega) draw)
    unfold gstep
    rw [if_neg]
    rintro ⟨x, y, _⟩
    exact hin ⟨x, y⟩

theorem CRel.again {c : Conf} {L : Lay} {P : PLay} (h : CRel c L P) {i : Nat} (hi : i < L.procs.length) (hl : (L.procs[i]).2.phase ≠ 20) (draw : Int) : (∃ P', CRel c (lstep L i draw) P') ∧ opsL (lstep L i draw) = opsL L ∧ (SlotOk L → SlotOk (lstep L i draw)) := by
  obtain ⟨v, n, hh⟩ := h.rel.here hi hl
  obtain ⟨p', hwt⟩ := hh.went h.ck draw
  obtain ⟨_, _, _, hP⟩ := h.next (B := 0) hi hl draw
  exact ⟨hP, opsL_went hwt hi rfl, slot_went hwt hi rfl⟩

theorem lround_keep {c : Conf} {L : Lay} {P : PLay} (h : CRel c L P) (d : Int) : ∀ k, k ≤ L.procs.length → (∃ P', CRel c (lroundTo L d k) P') ∧ opsL (lroundTo L d k) = opsL L ∧ (SlotOk L → SlotOk (lroundTo L d k))
  | 0, _ => ⟨⟨P, h⟩, rfl, id⟩
  | k + 1, hk => by
    obtain ⟨⟨P', h'⟩, e, es⟩ := lround_keep h d k (by omega)
    have hl : k < (lroundTo L d k).procs.length := by rw [lroundTo_len]; omega
    unfold lroundTo
    split
    · exact ⟨⟨P', h'⟩, e, es⟩
    · rename_i hne
      have hp : ((lroundTo L d k).procs[k]).2.phase ≠ 20 := by
        rw [List.getD_eq_getElem?_getD, List.getElem?_eq_getElem hl] at hne
        exact hne
      obtain ⟨x, y, z⟩ := h'.again hl hp (d + k)
      exact ⟨x, y.trans e, fun a => z (es a)⟩
theorem lrest_keep {c : Conf} {L : Lay} {P : PLay} (h : CRel c L P) (m : Int) : ∀ r, (∃ P', CRel c (lrest L m r) P') ∧ opsL (lrest L m r) = opsL L ∧ (SlotOk L → SlotOk (lrest L m r))
  | 0 => ⟨⟨P, h⟩, rfl, id⟩
  | r + 1 => by
    obtain ⟨⟨P', h'⟩, e, es⟩ := lrest_keep h m r
    unfold lrest
    obtain ⟨x, y, z⟩ := lround_keep h' (m + r) L.procs.length (by rw [lrest_len]; omega)
    exact ⟨x, y.trans e, fun a => z (es a)⟩

theorem hrest_c {w : World} {B hb : Nat} {c : Conf} {S : Gh} {P : PLay} (h : KSt w B hb c S P) (a b : Int) :
    Calls Try.prog 26 #[.pointer (some ⟨hb, 0, none⟩), I a, I b] w fun e w' => e = .returned (.bool true) ∧ (∃ P', KSt w' B hb c (grest S a b) P') ∧ ChgT B KT w w' := by
  by_cases ha : 0 ≤ a ∧ a ≤ 100
  · obtain ⟨r, rfl⟩ := Int.eq_ofNat_of_zero_le ha.1
    have hpl := h.rel.plen
    have eg : grest S r b = ⟨lrest S.L (b % 12) r, S.ops, if (r : Int) = 0 then S.went else S.went.map fun _ => true⟩ := by
      unfold grest
      rw [if_pos ha, Int.toNat_natCast]
    rw [eg]
    refine (krest_run h.rep h.hB r (by omega) b (liveL (lrest S.L (b % 12) r).procs) (fun P' => P'.tb = P.tb ∧ CRel c (lrest S.L (b % 12) r) P') ?_ ?_).mono ?_
    · rintro P' ⟨x, y⟩
      refine ⟨x, by rw [y.rel.cP, h.rel.rel.cP], ?_, plive_w y.rel⟩
      have := y.plen
      rw [lrest_len] at this
      omega
    · intro W hW hBW
      refine (prest_ok h.rel hW hBW r (by omega) b).mono ?_
      rintro x w' ⟨rfl, ⟨P', a1, a2, a3⟩, hc⟩
      exact ⟨rfl, ⟨P', ⟨a1, a2⟩, a3⟩, hc⟩
    · rintro e w' ⟨rfl, ⟨P', hP', hr⟩, hc⟩
      refine ⟨rfl, ⟨P', hr, hP'.2, Nat.le_trans h.hB hc.size, ?_⟩, hc.mono (Nat.le_refl _) (by simp)⟩
      refine ⟨?_, ?_, (lrest_keep h.rel (b % 12) r).2.2 h.of.slot, fun j hj hj' hw => ?_⟩
      · show (if (r : Int) = 0 then S.went else S.went.map fun _ => true).length = (lrest S.L (b % 12) r).procs.length
        rw [lrest_len]
        split
        · exact h.of.wlen
        · rw [List.length_map]; exact h.of.wlen
      · show S.ops = opsL (lrest S.L (b % 12) r)
        rw [(lrest_keep h.rel (b % 12) r).2.1]
        exact h.of.op
      · simp only at hj hj' hw ⊢
        by_cases e : (r : Int) = 0
        · have e' : r = 0 := by omega
          subst e'
          simp only [if_pos e] at hj' hw
          exact h.of.new j hj hj' hw
        · simp only [if_neg e] at hj' hw
          simp at hw
  · have eg : grest S a b = S := by unfold grest; rw [if_neg ha]
    rw [eg]
    refine (krest_bad h.rep a b (by omega) (fun W => prest_err P.tb a b (by omega))).mono ?_
    rintro e w' ⟨rfl, hb'⟩
    exact ⟨rfl, ⟨P, h.below hb'⟩, ChgT.of_below hb'⟩

theorem kwanted_c (k a b : Int) (hk : k = 1 ∨ k = 2 ∨ k = 3 ∨ k = 4 ∨ k = 5 ∨ k = 6) (w : World) : Calls Try.prog 27 #[.agg #[I k, I a, I b]] w fun e w' => e = .returned (.tuple #[opV (wantK k a b), .bool true]) ∧ Below w.heap.size w w' := by
  unfold opV
  rcases hk with rfl | rfl | rfl | rfl | rfl | rfl
  · have e1 : wantK 1 a b = ⟨0, 0, 0⟩ := rfl
    rw [e1]
    clear e1
    go_enter Try.func27, Try.ntmps27
    go_wp2
    exact bodyPost_ret (v := .tuple #[.agg #[I 0, I 0, I 0], .bool true]) (by simp [results, Try.results27, go_sem]) rfl ⟨rfl, ((Below.refl _ _).alloc (Nat.le_refl _) _).alloc (by simp) _⟩
  · have e1 : wantK 2 a b = ⟨1, a, 0⟩ := rfl
    rw [e1]
    clear e1
    go_enter Try.func27, Try.ntmps27
    go_wp2
    exact bodyPost_ret (v := .tuple #[.agg #[I 1, I a, I 0], .bool true]) (by simp [results, Try.results27, go_sem]) rfl ⟨rfl, ((Below.refl _ _).alloc (Nat.le_refl _) _).alloc (by simp) _⟩
  · have e1 : wantK 3 a b = ⟨2, 0, 0⟩ := rfl
    rw [e1]
    clear e1
    go_enter Try.func27, Try.ntmps27
    go_wp2
    exact bodyPost_ret (v := .tuple #[.agg #[I 2, I 0, I 0], .bool true]) (by simp [results, Try.results27, go_sem]) rfl ⟨rfl, ((Below.refl _ _).alloc (Nat.le_refl _) _).alloc (by simp) _⟩
  · have e1 : wantK 4 a b = ⟨3, 0, a⟩ := rfl
    rw [e1]
    clear e1
    go_enter Try.func27, Try.ntmps27
    go_wp2
    exact bodyPost_ret (v := .tuple #[.agg #[I 3, I 0, I a], .bool true]) (by simp [results, Try.results27, go_sem]) rfl ⟨rfl, ((Below.refl _ _).alloc (Nat.le_refl _) _).alloc (by simp) _⟩
  · have e1 : wantK 5 a b = ⟨4, 0, a⟩ := rfl
    rw [e1]
    clear e1
    go_enter Try.func27, Try.ntmps27
    go_wp2
    exact bodyPost_ret (v := .tuple #[.agg #[I 4, I 0, I a], .bool true]) (by simp [results, Try.results27, go_sem]) rfl ⟨rfl, ((Below.refl _ _).alloc (Nat.le_refl _) _).alloc (by simp) _⟩
  · have e1 : wantK 6 a b = ⟨a, b, b⟩ := rfl
    rw [e1]
    clear e1
    go_enter Try.func27, Try.ntmps27
    go_wp2
    exact bodyPost_ret (v := .tuple #[.agg #[I a, I b, I b], .bool true]) (by simp [results, Try.results27, go_sem]) rfl ⟨rfl, ((Below.refl _ _).alloc (Nat.le_refl _) _).alloc (by simp) _⟩

theorem kwanted_no (k a b : Int) (hk : ¬ (1 ≤ k ∧ k ≤ 6)) (w : World) : Calls Try.prog 27 #[.agg #[I k, I a, I b]] w fun e w' => e = .returned (.tuple #[.agg #[I 0, I 0, I 0], .bool false]) ∧ Below w.heap.size w w' := by
  have b1 : (k == 1) = false := by simp; omega
  have b2 : (k == 2) = false := by simp; omega
  have b3 : (k == 3) = false := by simp; omega
  have b4 : (k == 4) = false := by simp; omega
  have b5 : (k == 5) = false := by simp; omega
  have b6 : (k == 6) = false := by simp; omega
  clear hk
  go_enter Try.func27, Try.ntmps27
  go_wp2
  exact bodyPost_ret (v := .tuple #[.agg #[I 0, I 0, I 0], .bool false]) (by simp [results, Try.results27, go_sem]) rfl ⟨rfl, ((Below.refl _ _).alloc (Nat.le_refl _) _).alloc (by simp) _⟩

set_option maxHeartbeats 4000000 in
theorem hplay_c {w : World} {B hb : Nat} {c : Conf} {S : Gh} {P : PLay} (h : KSt w B hb c S P) (k a b : Int) :
    Calls Try.prog 8 #[.pointer (some ⟨hb, 0, none⟩), .agg #[I k, I a, I b]] w fun e w' => e = .returned (.bool true) ∧ (∃ P', KSt w' B hb c (gplay c S k a b) P') ∧ ChgT B KT w w' := by
  have hba : Below w.heap.size w (w.alloc (.cells #[I k, I a, I b] 31)) := (Below.refl _ _).alloc (Nat.le_refl _) _
  have noa : (w.alloc (.cells #[I k, I a, I b] 31)).heap[w.heap.size]? = some (.cells #[I k, I a, I b] 31 (0, 0)) := nb_alloc _ _ _
  by_cases h8 : k = 8
  · subst h8
    have hs := hstep_c (h.below hba) a b
    have eg : gplay c S 8 a b = gstep S a b := by unfold gplay; rw [if_pos rfl]
    rw [eg]
    replace hs : Hid _ := hs
    replace h : Hid _ := h
    clear eg
    go_enter Try.func8, Try.ntmps8
    go_wp2_with fail
    refine Calls.mono hs.out ?_
    rintro e w1 ⟨rfl, hP, hc⟩
    go_wp2
    go_ret
    exact ⟨rfl, hP, (ChgT.of_below hba).trans hc⟩
  · by_cases h9 : k = 9
    · subst h9
      have hs := hrest_c (h.below hba) a b
      have eg : gplay c S 9 a b = grest S a b := by unfold gplay; rw [if_neg (by decide), if_pos rfl]
      rw [eg]
      replace hs : Hid _ := hs
      replace h : Hid _ := h
      clear eg
      go_enter Try.func8, Try.ntmps8
      go_wp2_with fail
      refine Calls.mono hs.out ?_
      rintro e w1 ⟨rfl, hP, hc⟩
      go_wp2
      go_ret
      exact ⟨rfl, hP, (ChgT.of_below hba).trans hc⟩
    · have b8 : (k == 8) = false := by simp [h8]
      have b9 : (k == 9) = false := by simp [h9]
      by_cases hk : 1 ≤ k ∧ k ≤ 6
      · have eg : gplay c S k a b = gspawn c S (wantK k a b) := by unfold gplay; rw [if_neg h8, if_neg h9, if_pos hk]
        rw [eg]
        have hw := fun W => kwanted_c k a b (by omega) W
        have hs := fun W (hW : Below w.heap.size w W) => hspawn_c (h.below hW) (wantK k a b)
        unfold opV at hw hs
        generalize gspawn c S (wantK k a b) = S' at *
        generalize wantK k a b = o at *
        obtain ⟨o1, o2, o3⟩ := o
        simp only at hw hs
        replace hs : Hid _ := hs
        replace hw : Hid _ := hw
        replace h : Hid _ := h
        clear eg h8 h9 hk
        go_enter Try.func8, Try.ntmps8
        go_wp2_with fail
        refine Calls.mono (hw.out _) ?_
        rintro e w1 ⟨rfl, hb1⟩
        have hb2 := hba.trans (hb1.mono (by simp))
        have HS := hs.out (w1.alloc (.cells #[I o1, I o2, I o3] 51)) (hb2.alloc hb2.size _)
        replace HS : Hid _ := HS
        clear hb1 hw
        go_wp2_with fail
        refine Calls.mono HS.out ?_
        rintro e w2 ⟨rfl, hP, hc⟩
        go_wp2
        go_ret
        exact ⟨rfl, hP, (ChgT.of_below (hb2.alloc hb2.size _)).trans hc⟩
      · have eg : gplay c S k a b = S := by unfold gplay; rw [if_neg h8, if_neg h9, if_neg hk]
        rw [eg]
        have hw := fun W => kwanted_no k a b hk W
        replace hw : Hid _ := hw
        replace h : Hid _ := h
        clear eg h8 h9 hk
        go_enter Try.func8, Try.ntmps8
        go_wp2_with fail
        refine Calls.mono (hw.out _) ?_
        rintro e w1 ⟨rfl, hb1⟩
        have hb2 := hba.trans (hb1.mono (by simp))
        clear hb1 hw
        go_wp2
        go_ret
        exact ⟨rfl, ⟨P, h.out.below (hb2.alloc hb2.size _)⟩, ChgT.of_below (hb2.alloc hb2.size _)⟩

end Go.Proofs.Ytjnmpejcegmkhab

namespace Go.Proofs.Ytjnmpejcegmkhab
open Go.RowKit

/-- A new tree of the document, in no memory. -/
def newLay (c : Conf) : Lay := ⟨0, c, .slice none 0 0, [], .slice none 0 0, (List.range (2 ^ (c.depth.toNat + 1))).map fun u => (.slice none 0 0, if u = 0 then [] else newHist c.start u)⟩
theorem newLay_new (c : Conf) : NewLay c (newLay c) := by
  refine ⟨rfl, rfl, by simp [newLay], fun u h1 h2 => ?_, ?_⟩
  · have h2' : u < 2 ^ (c.depth.toNat + 1) := by simpa [newLay] using h2
    unfold Lay.hist newLay
    simp [List.getD_eq_getElem?_getD, h2']
    omega
  · unfold Lay.hist newLay
    have : 0 < 2 ^ (c.depth.toNat + 1) := Nat.two_pow_pos _
    simp [List.getD_eq_getElem?_getD, this]

theorem KSt.new {w : World} {B hb : Nat} {c : Conf} {P : PLay} (hm : mayC c = true) (h : KRep w B hb P [] []) (hp : PNew c P) (hB : B ≤ w.heap.size) : KSt w B hb c ⟨newLay c, [], []⟩ P :=
  ⟨h, crel_new hm (newLay_new c) hp h.prog.len, hB, ⟨rfl, rfl, fun _ hi => absurd hi (Nat.not_lt_zero _), fun _ hi => absurd hi (Nat.not_lt_zero _)⟩⟩

end Go.Proofs.Ytjnmpejcegmkhab
