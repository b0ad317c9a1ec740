/- What one Step of the document's tree does: to the process that steps, to the others, to the nodes. No statement of the seat is proved here. -/
import Derived.Test.YtjnmpejcegmkhaaDBoth
import Derived.Test.YtjnmpejcegmkhaaKeep7
namespace Go.Proofs.Ytjnmpejcegmkhaa
open Go.RowKit

def toPPs (ps : Prs) : List PP := ps.map fun x => toPP x.2

/-- From phase a at node v to phase b at node nd. -/
def PM (v : Nat) (a b nd : Int) : Prop :=
  (a = 0 ∧ b = 1 ∧ nd = (v : Int)) ∨ (a = 1 ∧ nd = (v : Int) ∧ (b = 2 ∨ b = 3 ∨ b = 12 ∨ b = 19)) ∨ (a = 1 ∧ (b = 0 ∨ b = 15) ∧ nd / 2 = (v : Int)) ∨ (a = 2 ∧ b = 0 ∧ nd = (v : Int)) ∨ (a = 3 ∧ b = 4 ∧ nd = (v : Int)) ∨ (a = 4 ∧ nd = (v : Int) ∧ (b = 5 ∨ b = 8 ∨ b = 11)) ∨ (a = 5 ∧ nd = (v : Int) ∧ (b = 6 ∨ b = 9)) ∨ (a = 6 ∧ nd = (v : Int) ∧ (b = 7 ∨ b = 6 ∨ b = 10)) ∨ (b = 0 ∧ (a = 7 ∨ a = 8 ∨ a = 11) ∧ nd / 2 = (v : Int)) ∨ (b = 19 ∧ nd = (v : Int) ∧ (a = 7 ∨ a = 8)) ∨ (a = 8 ∧ b = 9 ∧ nd = (v : Int)) ∨ (b = 11 ∧ nd = (v : Int) ∧ (a = 9 ∨ a = 10)) ∨ (a = 12 ∧ nd = (v : Int) ∧ (b = 19 ∨ b = 13 ∨ b = 14)) ∨ (a = 13 ∧ nd = (v : Int) ∧ (b = 19 ∨ b = 13)) ∨ (a = 14 ∧ nd = (v : Int) ∧ (b = 19 ∨ b = 14)) ∨ (a = 15 ∧ b = 16 ∧ nd = (v : Int)) ∨ (a = 16 ∧ nd = (v : Int) ∧ (b = 17 ∨ b = 16 ∨ b = 18)) ∨ (b = 19 ∧ nd = (v : Int) / 2 ∧ (a = 15 ∨ a = 17 ∨ a = 18 ∨ a = 19) ∧ (v : Int) / 2 ≠ 0) ∨ (b = 20 ∧ nd = 0 ∧ (a = 15 ∨ a = 17 ∨ a = 18 ∨ a = 19) ∧ (v : Int) / 2 = 0)
theorem PM.enter {v : Nat} : PM v 0 1 v := Or.inl ⟨rfl, rfl, rfl⟩
theorem PM.look {v : Nat} (b : Int) (hb : b = 2 ∨ b = 3 ∨ b = 12 ∨ b = 19) : PM v 1 b v := Or.inr (Or.inl ⟨rfl, rfl, hb⟩)
theorem PM.lookDown {v : Nat} (b nd : Int) (hb : b = 0 ∨ b = 15) (hn : nd / 2 = v) : PM v 1 b nd := Or.inr (Or.inr (Or.inl ⟨rfl, hb, hn⟩))
theorem PM.back {v : Nat} : PM v 2 0 v := Or.inr (Or.inr (Or.inr (Or.inl ⟨rfl, rfl, rfl⟩)))
theorem PM.wide {v : Nat} : PM v 3 4 v := Or.inr (Or.inr (Or.inr (Or.inr (Or.inl ⟨rfl, rfl, rfl⟩))))
theorem PM.slot {v : Nat} (b : Int) (hb : b = 5 ∨ b = 8 ∨ b = 11) : PM v 4 b v := Or.inr (Or.inr (Or.inr (Or.inr (Or.inr (Or.inl ⟨rfl, rfl, hb⟩)))))
theorem PM.claim {v : Nat} (b : Int) (hb : b = 6 ∨ b = 9) : PM v 5 b v := Or.inr (Or.inr (Or.inr (Or.inr (Or.inr (Or.inr (Or.inl ⟨rfl, rfl, hb⟩))))))
theorem PM.wait {v : Nat} (b : Int) (hb : b = 7 ∨ b = 6 ∨ b = 10) : PM v 6 b v := Or.inr (Or.inr (Or.inr (Or.inr (Or.inr (Or.inr (Or.inr (Or.inl ⟨rfl, rfl, hb⟩)))))))
theorem PM.down {v : Nat} (a nd : Int) (ha : a = 7 ∨ a = 8 ∨ a = 11) (hn : nd / 2 = v) : PM v a 0 nd := Or.inr (Or.inr (Or.inr (Or.inr (Or.inr (Or.inr (Or.inr (Or.inr (Or.inl ⟨rfl, ha, hn⟩))))))))
theorem PM.out {v : Nat} (a : Int) (ha : a = 7 ∨ a = 8) : PM v a 19 v := Or.inr (Or.inr (Or.inr (Or.inr (Or.inr (Or.inr (Or.inr (Or.inr (Or.inr (Or.inl ⟨rfl, rfl, ha⟩)))))))))
theorem PM.grow {v : Nat} : PM v 8 9 v := Or.inr (Or.inr (Or.inr (Or.inr (Or.inr (Or.inr (Or.inr (Or.inr (Or.inr (Or.inr (Or.inl ⟨rfl, rfl, rfl⟩))))))))))
theorem PM.width {v : Nat} (a : Int) (ha : a = 9 ∨ a = 10) : PM v a 11 v := Or.inr (Or.inr (Or.inr (Or.inr (Or.inr (Or.inr (Or.inr (Or.inr (Or.inr (Or.inr (Or.inr (Or.inl ⟨rfl, rfl, ha⟩)))))))))))
theorem PM.ticket {v : Nat} (b : Int) (hb : b = 19 ∨ b = 13 ∨ b = 14) : PM v 12 b v := Or.inr (Or.inr (Or.inr (Or.inr (Or.inr (Or.inr (Or.inr (Or.inr (Or.inr (Or.inr (Or.inr (Or.inr (Or.inl ⟨rfl, rfl, hb⟩))))))))))))
theorem PM.store {v : Nat} (b : Int) (hb : b = 19 ∨ b = 13) : PM v 13 b v := Or.inr (Or.inr (Or.inr (Or.inr (Or.inr (Or.inr (Or.inr (Or.inr (Or.inr (Or.inr (Or.inr (Or.inr (Or.inr (Or.inl ⟨rfl, rfl, hb⟩)))))))))))))
theorem PM.fetch {v : Nat} (b : Int) (hb : b = 19 ∨ b = 14) : PM v 14 b v := Or.inr (Or.inr (Or.inr (Or.inr (Or.inr (Or.inr (Or.inr (Or.inr (Or.inr (Or.inr (Or.inr (Or.inr (Or.inr (Or.inr (Or.inl ⟨rfl, rfl, hb⟩))))))))))))))
theorem PM.shut {v : Nat} : PM v 15 16 v := Or.inr (Or.inr (Or.inr (Or.inr (Or.inr (Or.inr (Or.inr (Or.inr (Or.inr (Or.inr (Or.inr (Or.inr (Or.inr (Or.inr (Or.inr (Or.inl ⟨rfl, rfl, rfl⟩)))))))))))))))
theorem PM.drain {v : Nat} (b : Int) (hb : b = 17 ∨ b = 16 ∨ b = 18) : PM v 16 b v := Or.inr (Or.inr (Or.inr (Or.inr (Or.inr (Or.inr (Or.inr (Or.inr (Or.inr (Or.inr (Or.inr (Or.inr (Or.inr (Or.inr (Or.inr (Or.inr (Or.inl ⟨rfl, rfl, hb⟩))))))))))))))))
theorem PM.up {v : Nat} (a : Int) (ha : a = 15 ∨ a = 17 ∨ a = 18 ∨ a = 19) (hv : (v : Int) / 2 ≠ 0) : PM v a 19 ((v : Int) / 2) := Or.inr (Or.inr (Or.inr (Or.inr (Or.inr (Or.inr (Or.inr (Or.inr (Or.inr (Or.inr (Or.inr (Or.inr (Or.inr (Or.inr (Or.inr (Or.inr (Or.inr (Or.inl ⟨rfl, rfl, ha, hv⟩)))))))))))))))))
theorem PM.done {v : Nat} (a : Int) (ha : a = 15 ∨ a = 17 ∨ a = 18 ∨ a = 19) (hv : (v : Int) / 2 = 0) : PM v a 20 0 := Or.inr (Or.inr (Or.inr (Or.inr (Or.inr (Or.inr (Or.inr (Or.inr (Or.inr (Or.inr (Or.inr (Or.inr (Or.inr (Or.inr (Or.inr (Or.inr (Or.inr (Or.inr (⟨rfl, rfl, ha, hv⟩))))))))))))))))))
theorem PM.elim {v : Nat} {motive : ∀ a b nd, PM v a b nd → Prop} (enter : motive 0 1 v (PM.enter)) (look : ∀ (b : Int) (hb : b = 2 ∨ b = 3 ∨ b = 12 ∨ b = 19), motive 1 b v (PM.look b hb)) (lookDown : ∀ (b nd : Int) (hb : b = 0 ∨ b = 15) (hn : nd / 2 = v), motive 1 b nd (PM.lookDown b nd hb hn)) (back : motive 2 0 v (PM.back)) (wide : motive 3 4 v (PM.wide)) (slot : ∀ (b : Int) (hb : b = 5 ∨ b = 8 ∨ b = 11), motive 4 b v (PM.slot b hb)) (claim : ∀ (b : Int) (hb : b = 6 ∨ b = 9), motive 5 b v (PM.claim b hb)) (wait : ∀ (b : Int) (hb : b = 7 ∨ b = 6 ∨ b = 10), motive 6 b v (PM.wait b hb)) (down : ∀ (a nd : Int) (ha : a = 7 ∨ a = 8 ∨ a = 11) (hn : nd / 2 = v), motive a 0 nd (PM.down a nd ha hn)) (out : ∀ (a : Int) (ha : a = 7 ∨ a = 8), motive a 19 v (PM.out a ha)) (grow : motive 8 9 v (PM.grow)) (width : ∀ (a : Int) (ha : a = 9 ∨ a = 10), motive a 11 v (PM.width a ha)) (ticket : ∀ (b : Int) (hb : b = 19 ∨ b = 13 ∨ b = 14), motive 12 b v (PM.ticket b hb)) (store : ∀ (b : Int) (hb : b = 19 ∨ b = 13), motive 13 b v (PM.store b hb)) (fetch : ∀ (b : Int) (hb : b = 19 ∨ b = 14), motive 14 b v (PM.fetch b hb)) (shut : motive 15 16 v (PM.shut)) (drain : ∀ (b : Int) (hb : b = 17 ∨ b = 16 ∨ b = 18), motive 16 b v (PM.drain b hb)) (up : ∀ (a : Int) (ha : a = 15 ∨ a = 17 ∨ a = 18 ∨ a = 19) (hv : (v : Int) / 2 ≠ 0), motive a 19 ((v : Int) / 2) (PM.up a ha hv)) (done : ∀ (a : Int) (ha : a = 15 ∨ a = 17 ∨ a = 18 ∨ a = 19) (hv : (v : Int) / 2 = 0), motive a 20 0 (PM.done a ha hv)) {a b nd : Int} (h : PM v a b nd) : motive a b nd h := by
  rcases h with ⟨rfl, rfl, rfl⟩ | ⟨rfl, rfl, hb⟩ | ⟨rfl, hb, hn⟩ | ⟨rfl, rfl, rfl⟩ | ⟨rfl, rfl, rfl⟩ | ⟨rfl, rfl, hb⟩ | ⟨rfl, rfl, hb⟩ | ⟨rfl, rfl, hb⟩ | ⟨rfl, ha, hn⟩ | ⟨rfl, rfl, ha⟩ | ⟨rfl, rfl, rfl⟩ | ⟨rfl, rfl, ha⟩ | ⟨rfl, rfl, hb⟩ | ⟨rfl, rfl, hb⟩ | ⟨rfl, rfl, hb⟩ | ⟨rfl, rfl, rfl⟩ | ⟨rfl, rfl, hb⟩ | ⟨rfl, rfl, ha, hv⟩ | ⟨rfl, rfl, ha, hv⟩
  · exact enter
  · exact look _ hb
  · exact lookDown _ _ hb hn
  · exact back
  · exact wide
  · exact slot _ hb
  · exact claim _ hb
  · exact wait _ hb
  · exact down _ _ ha hn
  · exact out _ ha
  · exact grow
  · exact width _ ha
  · exact ticket _ hb
  · exact store _ hb
  · exact fetch _ hb
  · exact shut
  · exact drain _ hb
  · exact up _ ha hv
  · exact done _ ha hv
theorem PM.of {v : Nat} {a b nd a' b' nd' : Int} (h : PM v a b nd) (ea : a' = a) (eb : b' = b) (en : nd' = nd) : PM v a' b' nd' := by subst ea eb en; exact h

structure Went (L : Lay) (i v : Nat) (p p' : Pr) (L' : Lay) : Prop where
  procs : toPPs L'.procs = (toPPs L.procs).set i (toPP p')
  hist : ∀ u, u ≠ v → (p.phase = 17 → u ≠ 2 * v ∧ u ≠ 2 * v + 1) → L'.hist u = L.hist u
  past : L'.past.length = L.past.length
  c : L'.c = L.c
  op : p'.kind = p.kind ∧ p'.oval = p.oval ∧ p'.onode = p.onode
  pm : PM v p.phase p'.phase p'.node
  slot : (p.phase ≠ 3 ∧ p'.slot = p.slot) ∨ (0 ≤ p'.slot ∧ p'.slot < L.c.width)

theorem toPPs_setP (L : Lay) (i : Nat) (p : Pr) : toPPs (L.setP i p).procs = (toPPs L.procs).set i (toPP p) := by simp [toPPs, List.map_set]
theorem hap_len (L : Lay) (v : Nat) (x : Value) (ev : Ev) (iv : Value) : (L.hap v x ev iv).past.length = L.past.length := by simp

section
variable {c : Conf} {L : Lay} {P : PLay} {i v : Nat} {p : Pr} {n : PN}

theorem went_set (q p' : Pr) (hop : p'.kind = p.kind ∧ p'.oval = p.oval ∧ p'.onode = p.onode) (hpm : PM v p.phase p'.phase p'.node) (hsl : (p.phase ≠ 3 ∧ p'.slot = p.slot) ∨ (0 ≤ p'.slot ∧ p'.slot < L.c.width)) : Went L i v p p' ((L.setP i q).setP i p') :=
  ⟨by rw [toPPs_setP, toPPs_setP, List.set_set], fun _ _ _ => rfl, rfl, rfl, hop, hpm, hsl⟩
theorem went_stay (p' : Pr) (hop : p'.kind = p.kind ∧ p'.oval = p.oval ∧ p'.onode = p.onode) (hpm : PM v p.phase p'.phase p'.node) (hsl : (p.phase ≠ 3 ∧ p'.slot = p.slot) ∨ (0 ≤ p'.slot ∧ p'.slot < L.c.width)) : Went L i v p p' (L.setP i p') :=
  ⟨toPPs_setP _ _ _, fun _ _ _ => rfl, rfl, rfl, hop, hpm, hsl⟩
theorem went_hap (hv : v < L.past.length) (q p' : Pr) (x : Value) (ev : Ev) (iv : Value) (hop : p'.kind = p.kind ∧ p'.oval = p.oval ∧ p'.onode = p.onode) (hpm : PM v p.phase p'.phase p'.node) (hsl : (p.phase ≠ 3 ∧ p'.slot = p.slot) ∨ (0 ≤ p'.slot ∧ p'.slot < L.c.width)) : Went L i v p p' (((L.setP i q).hap v x ev iv).setP i p') :=
  ⟨by rw [toPPs_setP]; show (toPPs (L.setP i q).procs).set i _ = _; rw [toPPs_setP, List.set_set], fun u hu _ => by
    have := hist_hap (L.setP i q) v u x ev iv hv
    rw [if_neg hu] at this
    exact this, by simp, rfl, hop, hpm, hsl⟩
theorem went_meet {j : Nat} (q p' y y' : Pr) (hj : j < L.procs.length) (hy : (L.procs[j]).2 = y) (hyy : toPP y' = toPP y) (hji : j ≠ i) (hop : p'.kind = p.kind ∧ p'.oval = p.oval ∧ p'.onode = p.onode) (hpm : PM v p.phase p'.phase p'.node) (hsl : (p.phase ≠ 3 ∧ p'.slot = p.slot) ∨ (0 ≤ p'.slot ∧ p'.slot < L.c.width)) : Went L i v p p' (((L.setP i q).setP j y').setP i p') := by
  refine ⟨?_, fun _ _ _ => rfl, rfl, rfl, hop, hpm, hsl⟩
  rw [toPPs_setP, toPPs_setP, toPPs_setP, hyy]
  have e : toPP y = (toPPs L.procs)[j]'(by simpa [toPPs] using hj) := by simp [toPPs, hy]
  rw [List.set_comm _ _ hji, List.set_set, List.set_comm _ _ (Ne.symm hji), e, List.set_getElem_self]

theorem Here.kidtw (h : Here c L P i v p n) (ck : CK c L P) (hph : p.phase = 1) (hk : ¬ p.kind < 3) : (((towards 6 p.onode.toNat v : Nat) : Int)) / 2 = (v : Int) := by
  have hq := ck.ci.cq i h.hi
  rw [h.ep] at hq
  obtain ⟨a1, a2, a3⟩ := hq.chg (by omega)
  have hcf := h.rel.confs
  have hlt : p.onode.toNat < 32 := by
    have : 2 ^ c.depth.toNat ≤ 2 ^ 4 := Nat.pow_le_pow_right (by omega) (by omega)
    omega
  have hab : above v p.onode.toNat := by
    rcases a3 with a3 | a3 | a3
    · rw [h.toNat] at a3
      exact a3.2
    · omega
    · omega
  have := (tw_facts ⟨p.onode.toNat, hlt⟩ ⟨v, h.v32⟩ h.v1 hab).2.2.1
  simp only at this
  omega

theorem ite_look (q : Prop) [Decidable q] : (if q then (3 : Int) else 12) = 2 ∨ (if q then (3 : Int) else 12) = 3 ∨ (if q then (3 : Int) else 12) = 12 ∨ (if q then (3 : Int) else 12) = 19 := by split <;> simp
theorem ite_down (q : Prop) [Decidable q] : (if q then (15 : Int) else 0) = 0 ∨ (if q then (15 : Int) else 0) = 15 := by split <;> simp

theorem settled_pm (q y : Pr) (b : Int) (hb : b = 0 ∨ b = 1) (hn : q.node = (v : Int)) (a : Int) (ha : a = 7 ∨ a = 8) : (settledPr q y b).kind = q.kind ∧ (settledPr q y b).oval = q.oval ∧ (settledPr q y b).onode = q.onode ∧ PM v a (settledPr q y b).phase (settledPr q y b).node ∧ (settledPr q y b).slot = q.slot := by
  unfold settledPr
  split
  · exact ⟨rfl, rfl, rfl, .down a _ (by omega) (by show (2 * q.node + b) / 2 = (v : Int); omega), rfl⟩
  · split
    · exact ⟨rfl, rfl, rfl, (PM.out a ha).of rfl rfl hn, rfl⟩
    · exact ⟨rfl, rfl, rfl, (PM.out a ha).of rfl rfl hn, rfl⟩

theorem up_pm (q : Pr) (hn : q.node = (v : Int)) (a : Int) (ha : a = 15 ∨ a = 17 ∨ a = 18 ∨ a = 19) : PM v a (upPr q).phase (upPr q).node := by
  unfold upPr
  simp only
  rw [hn]
  by_cases e : (v : Int) / 2 = 0
  · rw [if_pos e, e]; exact .done a ha e
  · rw [if_neg e]; exact .up a ha e

theorem Here.went (h : Here c L P i v p n) (ck : CK c L P) (draw : Int) : ∃ p', Went L i v p p' (lstep L i draw) := by
  have hv := h.vN
  have ha := h.at'
  have hph := h.q.phase
  have hlive := h.live
  rw [h.lat draw, h.lget]
  simp only
  have hcases : p.phase = 0 ∨ p.phase = 1 ∨ p.phase = 2 ∨ p.phase = 3 ∨ p.phase = 4 ∨ p.phase = 5 ∨ p.phase = 6 ∨ p.phase = 7 ∨ p.phase = 15 ∨ p.phase = 16 ∨ p.phase = 18 ∨ p.phase = 19 ∨ p.phase = 8 ∨ p.phase = 9 ∨ p.phase = 10 ∨ p.phase = 11 ∨ p.phase = 12 ∨ p.phase = 13 ∨ p.phase = 14 ∨ p.phase = 17 := by omega
  have hmv : p.phase ≠ 8 ∧ p.phase ≠ 9 ∧ p.phase ≠ 10 ∧ p.phase ≠ 11 ∧ p.phase ≠ 12 ∧ p.phase ≠ 13 ∧ p.phase ≠ 14 ∧ p.phase ≠ 17 → ((lmove (L.setP i (incPr p)) v (incPr p) draw).kind = p.kind ∧ (lmove (L.setP i (incPr p)) v (incPr p) draw).oval = p.oval ∧ (lmove (L.setP i (incPr p)) v (incPr p) draw).onode = p.onode) ∧ PM v p.phase (lmove (L.setP i (incPr p)) v (incPr p) draw).phase (lmove (L.setP i (incPr p)) v (incPr p) draw).node ∧ ((p.phase ≠ 3 ∧ (lmove (L.setP i (incPr p)) v (incPr p) draw).slot = p.slot) ∨ (0 ≤ (lmove (L.setP i (incPr p)) v (incPr p) draw).slot ∧ (lmove (L.setP i (incPr p)) v (incPr p) draw).slot < L.c.width)) := by
    intro hno
    unfold lmove
    have ein : (incPr p).phase = p.phase := rfl
    rw [ein]
    by_cases e0 : p.phase = 0
    · rw [if_pos e0]
      exact ⟨⟨rfl, rfl, rfl⟩, PM.enter.of e0 rfl ha, Or.inl ⟨by omega, rfl⟩⟩
    rw [if_neg e0]
    by_cases e1 : p.phase = 1
    · rw [if_pos e1]
      split
      · exact ⟨⟨rfl, rfl, rfl⟩, (PM.look 2 (by omega)).of e1 rfl ha, Or.inl ⟨by omega, rfl⟩⟩
      · split
        · exact ⟨⟨rfl, rfl, rfl⟩, (PM.look _ (ite_look _)).of e1 rfl ha, Or.inl ⟨by omega, rfl⟩⟩
        · rename_i hk3
          split
          · have hkd := h.kidtw ck e1 hk3
            exact ⟨⟨rfl, rfl, rfl⟩, (PM.lookDown (v := v) _ _ (ite_down _) hkd).of e1 rfl rfl, Or.inl ⟨by omega, rfl⟩⟩
          · exact ⟨⟨rfl, rfl, rfl⟩, (PM.look 19 (by omega)).of e1 rfl ha, Or.inl ⟨by omega, rfl⟩⟩
    rw [if_neg e1]
    by_cases e2 : p.phase = 2
    · rw [if_pos e2]
      exact ⟨⟨rfl, rfl, rfl⟩, PM.back.of e2 rfl ha, Or.inl ⟨by omega, rfl⟩⟩
    rw [if_neg e2]
    by_cases e3 : p.phase = 3
    · rw [if_pos e3]
      have hf := h.inner (by omega) (by omega)
      obtain ⟨_, _, hw1, hw2, hw3, _⟩ := h.nr.inn hf
      have hc := h.rel.cL
      have ew : widthH ((L.setP i (incPr p)).hist v) = widthH (L.hist v) := rfl
      refine ⟨⟨rfl, rfl, rfl⟩, PM.wide.of e3 rfl ha, Or.inr ⟨?_, ?_⟩⟩
      · exact Int.emod_nonneg _ (by rw [ew]; omega)
      · rw [hc]
        have := Int.emod_lt_of_pos draw (show 0 < widthH (L.hist v) by omega)
        show draw % widthH (L.hist v) < c.width
        omega
    rw [if_neg e3]
    by_cases e4 : p.phase = 4
    · rw [if_pos e4]
      split
      · exact ⟨⟨rfl, rfl, rfl⟩, (PM.slot 5 (by omega)).of e4 rfl ha, Or.inl ⟨by omega, rfl⟩⟩
      · rename_i hw
        obtain ⟨k, hk, hs⟩ := h.slotk
        have hf := h.inner (by omega) (by omega)
        have hwl := (h.inc.slotRel hf hk).waits
        have hsr := h.inc.slotRel hf hk
        have hlt : ∃ j : Nat, waitsL v (incPr p).slot (L.setP i (incPr p)).procs 0 = (j : Int) ∧ j < (L.setP i (incPr p)).procs.length := by
          have es : (incPr p).slot = (k : Int) := hs
          rw [es] at hw ⊢
          rcases hsr with ⟨s0, _⟩ | ⟨j, hj, a1, _, _, a4⟩
          · rcases hwl with ⟨_, x⟩ | ⟨x, _⟩
            · rw [x] at hw; omega
            · omega
          · rcases hwl with ⟨x, _⟩ | ⟨_, x⟩
            · rcases a4 with a4 | a4 <;> omega
            · exact ⟨j, by rw [x, a1], hj⟩
        obtain ⟨j, hj, hjl⟩ := hlt
        rw [hj, Int.toNat_natCast, List.getElem?_eq_getElem hjl]
        simp only
        split
        · exact ⟨⟨rfl, rfl, rfl⟩, (PM.slot 11 (by omega)).of e4 rfl ha, Or.inl ⟨by omega, rfl⟩⟩
        · exact ⟨⟨rfl, rfl, rfl⟩, (PM.slot 8 (by omega)).of e4 rfl ha, Or.inl ⟨by omega, rfl⟩⟩
    rw [if_neg e4]
    by_cases e5 : p.phase = 5
    · rw [if_pos e5]
      split
      · exact ⟨⟨rfl, rfl, rfl⟩, (PM.claim 6 (by omega)).of e5 rfl ha, Or.inl ⟨by omega, rfl⟩⟩
      · exact ⟨⟨rfl, rfl, rfl⟩, (PM.claim 9 (by omega)).of e5 rfl ha, Or.inl ⟨by omega, rfl⟩⟩
    rw [if_neg e5]
    by_cases e6 : p.phase = 6
    · rw [if_pos e6]
      unfold waitPr
      split
      · exact ⟨⟨rfl, rfl, rfl⟩, (PM.wait 7 (by omega)).of e6 rfl ha, Or.inl ⟨by omega, rfl⟩⟩
      · split
        · exact ⟨⟨rfl, rfl, rfl⟩, (PM.wait 6 (by omega)).of e6 e6 ha, Or.inl ⟨by omega, rfl⟩⟩
        · exact ⟨⟨rfl, rfl, rfl⟩, (PM.wait 10 (by omega)).of e6 rfl ha, Or.inl ⟨by omega, rfl⟩⟩
    rw [if_neg e6]
    by_cases e7 : p.phase = 7
    · rw [if_pos e7]
      have hf := h.inner (by omega) (by omega)
      obtain ⟨k, hk, hs⟩ := h.slotk
      obtain ⟨_, hm⟩ := h.mine (Or.inr e7) hk hs hf
      rcases hm with ⟨_, x, _⟩ | ⟨s2, b, by1, m2, hb, hbi⟩
      · omega
      have hb1 : b < (L.setP i (incPr p)).procs.length := by simpa using hb
      have em : (incPr p).met = (b : Int) := m2
      rw [em, Int.toNat_natCast, List.getElem?_eq_getElem hb1]
      simp only
      obtain ⟨x1, x2, x3, x4, x5⟩ := settled_pm (v := v) { incPr p with met := -1 } ((L.setP i (incPr p)).procs[b]).2 0 (Or.inl rfl) ha 7 (Or.inl rfl)
      exact ⟨⟨x1, x2, x3⟩, by rw [e7]; exact x4, Or.inl ⟨by omega, x5⟩⟩
    rw [if_neg e7]
    by_cases e15 : p.phase = 15
    · rw [if_pos e15]
      unfold shutCh
      split
      · exact ⟨⟨rfl, rfl, rfl⟩, up_pm _ (by exact ha) _ (by omega), Or.inl ⟨by omega, rfl⟩⟩
      · exact ⟨⟨rfl, rfl, rfl⟩, PM.shut.of e15 rfl ha, Or.inl ⟨by omega, rfl⟩⟩
    rw [if_neg e15]
    by_cases e16 : p.phase = 16
    · rw [if_pos e16]
      unfold drainCh
      split
      · exact ⟨⟨rfl, rfl, rfl⟩, (PM.drain 17 (by omega)).of e16 rfl ha, Or.inl ⟨by omega, rfl⟩⟩
      · split
        · exact ⟨⟨rfl, rfl, rfl⟩, (PM.drain 16 (by omega)).of e16 e16 ha, Or.inl ⟨by omega, rfl⟩⟩
        · exact ⟨⟨rfl, rfl, rfl⟩, (PM.drain 18 (by omega)).of e16 rfl ha, Or.inl ⟨by omega, rfl⟩⟩
    rw [if_neg e16]
    by_cases e18 : p.phase = 18
    · rw [if_pos e18]
      exact ⟨⟨rfl, rfl, rfl⟩, up_pm _ (by exact ha) _ (by omega), Or.inl ⟨by omega, rfl⟩⟩
    rw [if_neg e18]
    have e19 : p.phase = 19 := by omega
    rw [if_pos e19]
    exact ⟨⟨rfl, rfl, rfl⟩, up_pm _ (by exact ha) _ (by omega), Or.inl ⟨by omega, rfl⟩⟩
  by_cases e8 : p.phase = 8
  · rw [if_pos e8]
    obtain ⟨j, mj, hj, hji⟩ := h.q.mind e8
    rw [mj, Int.toNat_natCast, List.getElem?_eq_getElem hj]
    simp only
    split
    · obtain ⟨x1, x2, x3, x4, x5⟩ := settled_pm (v := v) (incPr p) (L.procs[j]).2 1 (Or.inr rfl) ha 8 (Or.inr rfl)
      exact ⟨_, went_meet _ _ (L.procs[j]).2 _ hj rfl rfl hji ⟨x1, x2, x3⟩ (by rw [e8]; exact x4) (Or.inl ⟨by omega, x5⟩)⟩
    · exact ⟨_, went_set _ _ ⟨rfl, rfl, rfl⟩ (PM.grow.of e8 rfl ha) (Or.inl ⟨by omega, rfl⟩)⟩
  rw [if_neg e8]
  by_cases e9 : p.phase = 9
  · rw [if_pos e9]
    exact ⟨_, went_hap hv _ _ _ _ _ ⟨rfl, rfl, rfl⟩ ((PM.width 9 (by omega)).of e9 rfl ha) (Or.inl ⟨by omega, rfl⟩)⟩
  rw [if_neg e9]
  by_cases e10 : p.phase = 10
  · rw [if_pos e10]
    exact ⟨_, went_hap hv _ _ _ _ _ ⟨rfl, rfl, rfl⟩ ((PM.width 10 (by omega)).of e10 rfl ha) (Or.inl ⟨by omega, rfl⟩)⟩
  rw [if_neg e10]
  by_cases e11 : p.phase = 11
  · rw [if_pos e11]
    refine ⟨_, went_hap hv _ _ _ _ _ ⟨rfl, rfl, rfl⟩ ?_ (Or.inl ⟨by omega, rfl⟩)⟩
    have ht : togH (L.hist v) = 0 ∨ togH (L.hist v) = 1 := by unfold togH; omega
    have hk : ∀ t : Int, t = 0 ∨ t = 1 → (2 * p.node + t) / 2 = (v : Int) := by intro t ht; omega
    have htt : (if p.kind = 2 then (togH (L.hist v) + 1) % 2 else togH (L.hist v)) = 0 ∨ (if p.kind = 2 then (togH (L.hist v) + 1) % 2 else togH (L.hist v)) = 1 := by split <;> omega
    exact (PM.down (v := v) 11 _ (by omega) (hk _ htt)).of e11 rfl rfl
  rw [if_neg e11]
  by_cases e12 : p.phase = 12
  · rw [if_pos e12]
    split
    · exact ⟨_, went_hap hv _ _ _ _ _ ⟨rfl, rfl, rfl⟩ ((PM.ticket 19 (by omega)).of e12 rfl ha) (Or.inl ⟨by omega, rfl⟩)⟩
    · split
      · exact ⟨_, went_hap hv _ _ _ _ _ ⟨rfl, rfl, rfl⟩ ((PM.ticket 13 (by omega)).of e12 rfl ha) (Or.inl ⟨by omega, rfl⟩)⟩
      · exact ⟨_, went_hap hv _ _ _ _ _ ⟨rfl, rfl, rfl⟩ ((PM.ticket 14 (by omega)).of e12 rfl ha) (Or.inl ⟨by omega, rfl⟩)⟩
  rw [if_neg e12]
  by_cases e13 : p.phase = 13
  · rw [if_pos e13]
    split
    · exact ⟨_, went_hap hv _ _ _ _ _ ⟨rfl, rfl, rfl⟩ ((PM.store 19 (by omega)).of e13 rfl ha) (Or.inl ⟨by omega, rfl⟩)⟩
    · exact ⟨_, went_stay _ ⟨rfl, rfl, rfl⟩ ((PM.store 13 (by omega)).of e13 e13 ha) (Or.inl ⟨by omega, rfl⟩)⟩
  rw [if_neg e13]
  by_cases e14 : p.phase = 14
  · rw [if_pos e14]
    split
    · exact ⟨_, went_hap hv _ _ _ _ _ ⟨rfl, rfl, rfl⟩ ((PM.fetch 19 (by omega)).of e14 rfl ha) (Or.inl ⟨by omega, rfl⟩)⟩
    · exact ⟨_, went_stay _ ⟨rfl, rfl, rfl⟩ ((PM.fetch 14 (by omega)).of e14 e14 ha) (Or.inl ⟨by omega, rfl⟩)⟩
  rw [if_neg e14]
  by_cases e17 : p.phase = 17
  · rw [if_pos e17]
    have hk : 2 * v + 1 < L.past.length := (h.target17 ck e17).kid
    split
    · refine ⟨upPr { incPr p with val := 1 }, by rw [toPPs_setP]; show (toPPs (L.setP i (incPr p)).procs).set i _ = _; rw [toPPs_setP, List.set_set], fun u hu hu2 => ?_, by simp, rfl, ⟨rfl, rfl, rfl⟩, up_pm { incPr p with val := 1 } (by exact ha) p.phase (by omega), Or.inl ⟨by omega, rfl⟩⟩
      obtain ⟨u1, u2⟩ := hu2 e17
      show ((L.setP i (incPr p)).unfolded v nilV nilV nilV nilV nilV).hist u = L.hist u
      unfold Lay.unfolded
      rw [hap_hist _ _ _ _ _ _ (by simp; omega) u2, hap_hist _ _ _ _ _ _ (by simp; omega) u1, hap_hist _ _ _ _ _ _ (by exact hv) hu]
      rfl
    · split
      · exact ⟨_, went_set _ _ ⟨rfl, rfl, rfl⟩ (up_pm _ (by exact ha) _ (by omega)) (Or.inl ⟨by omega, rfl⟩)⟩
      · refine ⟨upPr { incPr p with val := 1 }, by rw [toPPs_setP]; show (toPPs (L.setP i (incPr p)).procs).set i _ = _; rw [toPPs_setP, List.set_set], fun u hu hu2 => ?_, by simp, rfl, ⟨rfl, rfl, rfl⟩, up_pm { incPr p with val := 1 } (by exact ha) p.phase (by omega), Or.inl ⟨by omega, rfl⟩⟩
        obtain ⟨u1, u2⟩ := hu2 e17
        show ((L.setP i (incPr p)).folded v nilV nilV nilV nilV).hist u = L.hist u
        unfold Lay.folded
        rw [hap_hist _ _ _ _ _ _ (by simp; omega) (by assumption), hap_hist _ _ _ _ _ _ (by simp; omega) (by assumption), hap_hist _ _ _ _ _ _ (by simp; omega) (by assumption)]
        rfl
  rw [if_neg e17]
  obtain ⟨m1, m2, m3⟩ := hmv ⟨e8, e9, e10, e11, e12, e13, e14, e17⟩
  exact ⟨_, went_set _ _ m1 m2 m3⟩
end

theorem PM.behind {v : Nat} {a b nd : Int} (h : PM v a b nd) : amongTo b (behindL a) = true := by
  cases h using PM.elim with
  | enter => decide
  | look b hb => rcases hb with rfl | rfl | rfl | rfl <;> decide
  | lookDown b nd hb hn => rcases hb with rfl | rfl <;> decide
  | back => decide
  | wide => decide
  | slot b hb => rcases hb with rfl | rfl | rfl <;> decide
  | claim b hb => rcases hb with rfl | rfl <;> decide
  | wait b hb => rcases hb with rfl | rfl | rfl <;> decide
  | down a nd ha hn => rcases ha with rfl | rfl | rfl <;> decide
  | out a ha => rcases ha with rfl | rfl <;> decide
  | grow => decide
  | width a ha => rcases ha with rfl | rfl <;> decide
  | ticket b hb => rcases hb with rfl | rfl | rfl <;> decide
  | store b hb => rcases hb with rfl | rfl <;> decide
  | fetch b hb => rcases hb with rfl | rfl <;> decide
  | shut => decide
  | drain b hb => rcases hb with rfl | rfl | rfl <;> decide
  | up a ha hv => rcases ha with rfl | rfl | rfl | rfl <;> decide
  | done a ha hv => rcases ha with rfl | rfl | rfl | rfl <;> decide

/-- What a step does not touch: every node but the one where it stood holds the same processes, has the same who wait, the same gate. -/
theorem PM.elsewhere {v : Nat} {p p' : Pr} (h : PM v p.phase p'.phase p'.node) (hp : p.node = (v : Int)) (hv1 : 1 ≤ v) (hv : v < 32) :
    (∀ u, 1 ≤ u → u < 32 → u ≠ v → holdsP u p' = holdsP u p) ∧ (∀ u k : Int, u ≠ v → waitP u k p' = waitP u k p) ∧ (∀ u : Int, u ≠ v → shutP u p' = shutP u p) := by
  have hst : ∀ u, 1 ≤ u → u < 32 → u ≠ v → (climb 6 v u = u ↔ climb 6 (v / 2) u = u) := by
    intro u h1 h2 h3
    have := (climb_step ⟨v, by omega⟩ ⟨u, by omega⟩ hv1 h1).1
    simp only [h3, decide_false, Bool.false_or] at this
    exact decide_eq_decide.1 this
  have hz : ∀ u, 1 ≤ u → climb 6 0 u ≠ u := by
    intro u h1 e
    rw [climb_stop 6 0 u (by omega)] at e
    omega
  have hpt : p.node.toNat = v := by omega
  have hA : p.phase ≠ 20 ∧ ((p'.phase = 20 ∧ v / 2 = 0 ∧ (atP p = v ∨ atP p = v / 2)) ∨ (p'.phase ≠ 20 ∧ (atP p' = atP p ∨ (atP p' = v ∧ atP p = v / 2) ∨ (atP p' = v / 2 ∧ atP p = v)))) := by
    unfold atP
    rw [hpt]
    generalize p.phase = a at *
    generalize p'.phase = b at *
    generalize p'.node = nd at *
    cases h using PM.elim
    all_goals
      refine ⟨by omega, ?_⟩
      split <;> split <;> omega
  have hW : ((p'.phase ≠ 6 ∧ p'.phase ≠ 7) ∨ p'.node = (v : Int)) ∧ ((p'.phase ≠ 16 ∧ p'.phase ≠ 17 ∧ p'.phase ≠ 18) ∨ p'.node = (v : Int)) := by
    generalize p.phase = a at *
    generalize p'.phase = b at *
    generalize p'.node = nd at *
    cases h using PM.elim
    all_goals omega
  refine ⟨fun u h1 h2 h3 => ?_, fun u k h3 => ?_, fun u h3 => ?_⟩
  · have hs := hst u h1 h2 h3
    have e1 : ∀ q : Pr, q.phase ≠ 20 → (holdsP u q = decide (climb 6 (atP q) u = u)) := by
      intro q hq
      unfold holdsP
      simp [hq]
    rcases hA.2 with ⟨a2, ev, a3⟩ | ⟨a2, a3⟩
    · rw [show holdsP u p' = false by unfold holdsP; simp [a2], e1 p hA.1]
      symm
      rw [decide_eq_false_iff_not]
      rcases a3 with a3 | a3
      · rw [a3, hs, ev]; exact hz u h1
      · rw [a3, ev]; exact hz u h1
    · rw [e1 p hA.1, e1 p' a2]
      refine decide_eq_decide.2 ?_
      rcases a3 with a3 | ⟨a3, a4⟩ | ⟨a3, a4⟩
      · rw [a3]
      · rw [a3, a4]; exact hs
      · rw [a3, a4]; exact hs.symm
  · have f1 : waitP u k p = false := by unfold waitP; rw [hp]; simp [Ne.symm h3]
    rw [f1]
    unfold waitP
    rcases hW.1 with ⟨a, b⟩ | a
    · simp [a, b]
    · rw [a]; simp [Ne.symm h3]
  · have f1 : shutP u p = false := by unfold shutP; rw [hp]; simp [Ne.symm h3]
    rw [f1]
    unfold shutP
    rcases hW.2 with ⟨a, b, d⟩ | a
    · simp [a, b, d]
    · rw [a]; simp [Ne.symm h3]

end Go.Proofs.Ytjnmpejcegmkhaa
