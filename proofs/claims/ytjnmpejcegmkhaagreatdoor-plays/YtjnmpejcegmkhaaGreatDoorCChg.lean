/- The relation of both trees behind the moves of a Fold or an Unfold that change no node: Look, Shut, Drain, Reopen. The relation of both trees behind a Change: three nodes are made anew. The relation of both trees behind a Fold and an Unfold. No statement of the seat is proved here. -/
import Derived.Test.YtjnmpejcegmkhaaGreatDoorCMoves
import Derived.Test.YtjnmpejcegmkhaaGreatDoorRefChgA
import Derived.Test.YtjnmpejcegmkhaaGreatDoorPChgA
import Derived.Test.YtjnmpejcegmkhaaGreatDoorPChgB
namespace Go.Proofs.YtjnmpejcegmkhaaGreatDoor
open Go.RowKit

theorem tw_facts : ∀ o : Fin 32, ∀ v : Fin 32, 1 ≤ v.1 → above v.1 o.1 → Nat.log2 v.1 < Nat.log2 o.1 ∧ towards 6 o.1 v.1 = o.1 / 2 ^ (Nat.log2 o.1 - Nat.log2 v.1 - 1) ∧ (towards 6 o.1 v.1 = 2 * v.1 ∨ towards 6 o.1 v.1 = 2 * v.1 + 1) ∧ (towards 6 o.1 v.1 = o.1 ↔ Nat.log2 o.1 - Nat.log2 v.1 = 1) ∧ (towards 6 o.1 v.1 ≠ o.1 → above (towards 6 o.1 v.1) o.1) := by decide +kernel

section
variable {c : Conf} {L : Lay} {P : PLay} {i v : Nat} {p p' : Pr} {n : PN}

/-- A Fold or an Unfold that looks at a leaf. -/
theorem Here.clookNot (h : Here c L P i v p n) (k : CK c L P) (hph : p.phase = 1) (hk : 3 ≤ p.kind) (hs : shutL v L.procs = false) : CRel c (L.setP i { p with val := 2, phase := 19 }) (P.foc v n i (toPP { p with val := 2, phase := 19 })) := by
  have q := h.q
  have htn := h.toNat
  have hlg := h.lg
  have hw : WRel c (L.setP i { p with val := 2, phase := 19 }) (P.foc v n i (toPP { p with val := 2, phase := 19 })) := by
    refine h.plain { p with val := 2, phase := 19 } (by simp [atP, hph]) (by simp) (fun k => nowait (by omega) (by omega) _ _) (fun u k => nowait (by simp) (by simp) _ _) (by simp [potP, hph, htn]; omega) ?_ (fun a => absurd a (by simp))
    exact ⟨by simp, q.kind, fun a => absurd a (by simp), fun _ => q.live h.live, fun _ a => absurd a (by simp), fun _ b => absurd b (by simp), q.slot, ⟨q.wide.1, q.wide.2.1, fun _ b => absurd b (by simp)⟩, fun a => absurd a (by simp), q.pat, q.tick.1, q.tick.2.1, fun a => absurd a (by simp)⟩
  exact h.ordPlain k.si k.ci hw rfl (by omega) (by simp) rfl ((h.cq k.ci).out (by simp) rfl rfl) (Or.inl ⟨by simp [atP, hph], by omega⟩) (by simp) (fun _ a => by rw [hs] at a; simp at a)
    (fun u _ _ => by rw [eP_change (p := { p with val := 2, phase := 19 }) hk, eP_change hk]) (fun u => by rw [stP_no (by simp) (by simp), stP_no (by omega) (by omega)]) (tick_le (by omega) (by omega) (by omega) (by omega))

/-- Its target. -/
theorem Here.target (h : Here c L P i v p n) (k : CK c L P) (hk : 3 ≤ p.kind) (hph : p.phase = 0 ∨ p.phase = 1 ∨ p.phase = 2) : ∃ o : Nat, p.onode = (o : Int) ∧ 1 ≤ o ∧ o < 2 ^ c.depth.toNat ∧ o < 16 ∧ above v o := by
  obtain ⟨a1, a2, a3⟩ := (h.cq k.ci).chg hk
  have hc := h.rel.confs
  have h16 : 2 ^ c.depth.toNat ≤ 2 ^ 4 := Nat.pow_le_pow_right (by omega) (by omega)
  refine ⟨p.onode.toNat, by omega, by omega, a2, by omega, ?_⟩
  rcases a3 with a3 | a3 | a3
  · have := a3.2
    rw [h.toNat] at this
    exact this
  · omega
  · omega

theorem Here.clookDown (h : Here c L P i v p n) (k : CK c L P) (hph : p.phase = 1) (hk : 3 ≤ p.kind) (hs : shutL v L.procs = false) (hf : formH (L.hist v) = 1) {o : Nat} (ho : p.onode = (o : Int)) (ho1 : 1 ≤ o) (ho2 : o < 2 ^ c.depth.toNat) (ho16 : o < 16) (hab : above v o) :
    CRel c (L.setP i { p with node := ((towards 6 o v : Nat) : Int), phase := if towards 6 o v = o then 15 else 0 }) (P.foc v n i (toPP { p with node := ((towards 6 o v : Nat) : Int), phase := if towards 6 o v = o then 15 else 0 })) := by
  have q := h.q
  have htn := h.toNat
  have hlg := h.lg
  have hv := h.v32
  obtain ⟨t1, t2, t3, t4, t5⟩ := tw_facts ⟨o, by omega⟩ ⟨v, hv⟩ h.v1 hab
  simp only at t1 t2 t3 t4 t5
  clear t2 t4
  obtain ⟨k1, k2, k3⟩ := h.rel.kids v h.v1 h.vN hf
  have hl2 := log2_kid ⟨v, hv⟩ h.v1
  simp only at hl2
  have hkk := (h.cq k.ci).kinds
  generalize htw : towards 6 o v = tw at *
  have htv : tw / 2 = v := by omega
  have hlt : Nat.log2 tw = Nat.log2 v + 1 := by rcases t3 with e | e <;> rw [e] <;> omega
  have htf : formH (L.hist tw) ≠ 3 := by rcases t3 with e | e <;> rw [e] <;> assumption
  generalize hx : (if tw = o then (15 : Int) else 0) = x at *
  have hx' : (x = 15 ∧ tw = o) ∨ (x = 0 ∧ tw ≠ o) := by split at hx <;> rename_i e <;> omega
  have h1v := h.v1
  have hat : atP { p with node := (tw : Int), phase := x } = atP p := by
    unfold atP
    rw [if_pos (by show x = 0 ∨ x = 15 ∨ _; omega), if_neg (by omega), htn]
    show ((tw : Nat) : Int).toNat / 2 = v
    rw [Int.toNat_natCast]; exact htv
  have hw : WRel c (L.setP i { p with node := (tw : Int), phase := x }) (P.foc v n i (toPP { p with node := (tw : Int), phase := x })) := by
    refine h.plain { p with node := (tw : Int), phase := x } hat (by show x ≠ 20; omega) (fun k => nowait (by omega) (by omega) _ _) (fun u k => nowait (by show x ≠ 6; omega) (by show x ≠ 7; omega) _ _) ?_ ?_ (fun a => absurd a (by show x ≠ 13; omega))
    · show (if p.phase = 19 ∨ p.phase = 20 then 20 else if p.phase = 11 ∨ p.phase = 13 ∨ p.phase = 14 then 3 * Nat.log2 p.node.toNat + 1 else 3 * Nat.log2 p.node.toNat) ≤ (if x = 19 ∨ x = 20 then 20 else if x = 11 ∨ x = 13 ∨ x = 14 then 3 * Nat.log2 ((tw : Nat) : Int).toNat + 1 else 3 * Nat.log2 ((tw : Nat) : Int).toNat)
      rw [if_neg (by omega), if_neg (by omega), if_neg (by omega), if_neg (by omega), Int.toNat_natCast, hlt, htn]
      omega
    · exact ⟨by show 0 ≤ x ∧ x ≤ 20; omega, q.kind, fun a => absurd a (by show x ≠ 20; omega), fun _ => ⟨tw, rfl, by omega, by omega, htf⟩, fun a b => absurd b (by show ¬ x ≤ 11; have : 3 ≤ x := a; omega), fun a b => absurd b (by show ¬ x ≤ 14; have : 12 ≤ x := a; omega), q.slot, ⟨q.wide.1, q.wide.2.1, fun a b => absurd b (by show ¬ x ≤ 10; have : 4 ≤ x := a; omega)⟩, fun a => absurd a (by show x ≠ 8; omega), q.pat, q.tick.1, q.tick.2.1, fun a => absurd a (by show x ≠ 13; omega)⟩
  refine h.ordPlain k.si k.ci hw rfl (by omega) (by show ¬ (16 ≤ x ∧ x ≤ 18); omega) rfl ⟨(h.cq k.ci).kinds, fun a => by have : p.kind < 3 := a; omega, fun _ => ⟨by show 1 ≤ p.onode; omega, by show p.onode.toNat < _; rw [ho]; exact ho2, ?_⟩, fun a b => absurd (⟨a, b⟩ : 16 ≤ x ∧ x ≤ 18) (by omega)⟩ (Or.inl ⟨hat, by omega⟩) (fun a => absurd a (by show x ≠ 20; omega)) (fun _ a => by rw [hs] at a; simp at a)
    (fun u _ _ => by rw [eP_change (p := { p with node := (tw : Int), phase := x }) hk, eP_change hk]) (fun u => by rw [stP_no (by show x ≠ 13; omega) (by show x ≠ 14; omega), stP_no (by omega) (by omega)]) (tick_le (by omega) (by omega) (by omega) (by omega))
  rcases hx' with ⟨e1, e2⟩ | ⟨e1, e2⟩
  · exact Or.inr (Or.inl ⟨by show 15 ≤ x; omega, by show x ≤ 18; omega, by show (tw : Int) = p.onode; rw [ho, e2]⟩)
  · refine Or.inl ⟨by show x = 0 ∨ _; omega, ?_⟩
    show above ((tw : Nat) : Int).toNat p.onode.toNat
    rw [Int.toNat_natCast, ho, Int.toNat_natCast]
    exact t5 e2

theorem insideL_pos (v : Nat) : ∀ (ps : Prs) (j : Nat) (hj : j < ps.length), holdsP v (ps[j]).2 = true → 0 < insideL v ps
  | [], j, hj, _ => by simp at hj
  | y :: r, 0, _, h => by simp only [List.getElem_cons_zero] at h; simp only [insideL, h]; simp; omega
  | y :: r, j + 1, hj, h => by
    have := insideL_pos v r j (by simpa using hj) (by simpa using h)
    simp only [insideL]
    omega

/-- A move at a gate: as to what both trees have in common. -/
theorem Here.wgate (h : Here c L P i v p n) (h15 : 15 ≤ p.phase) (h18 : p.phase ≤ 18) (b : Bool) (hat : atP p' = atP p) (h20 : p'.phase = 20 → p'.node = 0) (hw : p'.phase = 16 ∨ p'.phase = 17 ∨ p'.phase = 18 ∨ p'.phase = 19 ∨ p'.phase = 20) (hq : QInv c L.hist L.past.length L.procs.length i p') (hpot : potP p ≤ potP p') :
    WRel c (L.setP i p') (P.foc v { n with shut := b } i (toPP p')) := by
  have hep := h.ep
  have hp20 : p.phase = 20 → p.node = 0 := fun e => absurd e h.live
  have hin : ∀ u, 1 ≤ u → holdsP u p' = holdsP u p := fun u h1 => by rw [holds_eq h20 u h1, holds_eq hp20 u h1, hat]
  have hw' : ∀ u k : Int, waitP u k p' = false := fun u k => nowait (by omega) (by omega) u k
  refine h.rel.move h.hi (moved_plain c L P i v p' { n with shut := b }) ?_
  rw [hep]
  refine ⟨h.v1, h.vN, rfl, rfl, Int.le_refl _, by show totL L.past + _ ≤ _; omega, h.at', h.live, fun u h1 _ _ => hin u h1, fun u k _ => hw' u k, ?_, hq, h.isz, fun j hj _ _ _ h0 => h0, fun a => by omega⟩
  have := h.nr.other h.hi ((L.procs.getD i (0, p')).1, p') (by rw [hep]; exact hin v h.v1) (fun k => ⟨by rw [hep]; exact nowait (by omega) (by omega) _ _, hw' v k⟩)
  exact ⟨this.form, this.there, this.inside, this.inn, this.leaf⟩

/-- A move at a gate. -/
theorem Here.cgate (h : Here c L P i v p n) (k : CK c L P) (h15 : 15 ≤ p.phase) (h18 : p.phase ≤ 18) (b : Bool) (hat : atP p' = atP p) (h20 : p'.phase = 20 → p'.node = 0) (hw : p'.phase = 16 ∨ p'.phase = 17 ∨ p'.phase = 18 ∨ p'.phase = 19 ∨ p'.phase = 20) (hk : p'.kind = p.kind)
    (hq : QInv c L.hist L.past.length L.procs.length i p') (hcq : CQ c L.hist p') (hnd : p'.phase ≤ 18 → p'.node = p.node) (hg : p'.phase ≤ 18 → 16 ≤ p.phase ∨ shutL v L.procs = false) (h17 : p'.phase = 17 → insideL v L.procs = 0)
    (hb : b = shutL v (L.setP i p').procs) (hpot : potP p ≤ potP p') : CRel c (L.setP i p') (P.foc v { n with shut := b } i (toPP p')) := by
  have hep := h.ep
  have hl := h.rel.lenle
  have hp20 : p.phase = 20 → p.node = 0 := fun e => absurd e h.live
  have hin : ∀ u, 1 ≤ u → holdsP u p' = holdsP u p := fun u h1 => by rw [holds_eq h20 u h1, holds_eq hp20 u h1, hat]
  have hap : atP p = v / 2 := by unfold atP; rw [if_pos (by omega), h.toNat]
  have hno : holdsP v p' = false := by
    rw [holds_eq h20 v h.v1, hat, hap]
    have := climb_half ⟨v, by have := h.vN; omega⟩ h.v1
    simp only at this
    simp [this]
  have hk3 : 3 ≤ p.kind := by
    have q := h.cq k.ci
    by_cases e : p.kind < 3
    · exact absurd ⟨h15, h18⟩ (q.walk e)
    · omega
  have hm := moved_plain c L P i v p' { n with shut := b }
  refine ⟨h.wgate h15 h18 b hat h20 hw hq hpot, h.sinv k.si hm rfl (fun u hne => ?_) hb, ?_⟩
  · rw [shutP_else h.at' hne]
    by_cases e : p'.phase ≤ 18
    · exact shutP_else (by rw [hnd e]; exact h.at') hne
    · exact shutP_no (by omega) _
  · refine k.ci.move (H' := (L.setP i p').hist) (d' := fun _ => 0) h.rel.len (by omega) h.hi (v := v) ?_
    rw [hep]
    refine ⟨h.at', h.v1, h.vN, fun _ _ => rfl, rfl, hk, hcq, fun a b' => ⟨by rw [hnd b']; exact h.at', ?_⟩, fun u h1 _ _ => hin u h1, fun a j hj hne ho => ?_, fun _ _ ho => by rw [hno] at ho; simp at ho, fun u h1 hu _ => ?_, fun _ _ => ?_, fun u hne => stP_no (by omega) (by omega) u, ?_, fun _ a => a⟩
    · rcases hg b' with e | e
      · exact Or.inl ⟨e, h18⟩
      · refine Or.inr fun j hj => ?_
        cases hs : shutP v (L.procs[j]).2 with
        | false => rfl
        | true => rw [shutL_of hj hs] at e; simp at e
    · exfalso
      have h0 := h17 a
      have := insideL_pos v L.procs j hj ho
      omega
    · rw [eP_change (p := p') (by omega), eP_change hk3]
      show 0 - 0 + side u v * (balH (L.hist v) - balH (L.hist v)) + 0 = togH (L.hist u) - togH (L.hist u) + 0
      simp
    · rw [stP_no (by omega) (by omega), stP_no (by omega) (by omega)]
      show ((itemsH (L.hist v)).length : Int) + 0 - (itemsH (L.hist v)).length - 0 = balH (L.hist v) - balH (L.hist v)
      omega
    · have := tick_le (p := p) (p' := p') (by omega) (by omega) (by omega) (by omega)
      show putN (L.hist v) - putN (L.hist v) ≤ _
      omega

/-- Nobody else has shut the gate of one who has. -/
theorem Here.alone (h : Here c L P i v p n) (k : CK c L P) (h16 : 16 ≤ p.phase) (h18 : p.phase ≤ 18) (x : Nat × Pr) (hx : shutP v x.2 = false) : shutL v (L.procs.set i x) = false := by
  have hep := h.ep
  cases hs : shutL v (L.procs.set i x) with
  | false => rfl
  | true =>
    obtain ⟨j, hj', e⟩ := shutL_ex hs
    have hj : j < L.procs.length := by simpa using hj'
    by_cases ej : j = i
    · subst ej
      simp only [List.getElem_set_self] at e
      rw [hx] at e
      simp at e
    · simp only [List.getElem_set_ne (Ne.symm ej)] at e
      simp only [shutP, Bool.and_eq_true, Bool.or_eq_true, decide_eq_true_eq] at e
      exact absurd (k.ci.gate j i hj h.hi (by omega) (by omega) (by rw [hep]; exact h16) (by rw [hep]; exact h18) (by rw [hep, e.1, h.at'])) ej

theorem Here.qgate (h : Here c L P i v p n) (ph pt : Int) (hph : ph = 16 ∨ ph = 17 ∨ ph = 18) (hpt : pt ≤ 1000) : QInv c L.hist L.past.length L.procs.length i { p with pat := pt, phase := ph } := by
  have q := h.q
  exact ⟨by show 0 ≤ ph ∧ ph ≤ 20; omega, q.kind, fun a => absurd a (by show ph ≠ 20; omega), fun _ => q.live h.live, fun _ b => absurd b (by show ¬ ph ≤ 11; omega), fun _ b => absurd b (by show ¬ ph ≤ 14; omega), q.slot, ⟨q.wide.1, q.wide.2.1, fun _ b => absurd b (by show ¬ ph ≤ 10; omega)⟩, fun a => absurd a (by show ph ≠ 8; omega), hpt, q.tick.1, q.tick.2.1, fun a => absurd a (by show ph ≠ 13; omega)⟩

theorem Here.qup (h : Here c L P i v p n) (vl : Int) : QInv c L.hist L.past.length L.procs.length i (upPr { p with val := vl }) := by
  have q := h.q
  have hu := up_phase { p with val := vl }
  refine ⟨by omega, q.kind, up_done _, fun a => ⟨v / 2, ?_, ?_, ?_, ?_⟩, fun _ b => by omega, fun _ b => by omega, q.slot, ⟨q.wide.1, q.wide.2.1, fun _ b => by omega⟩, fun a => by omega, q.pat, q.tick.1, q.tick.2.1, fun a => by omega⟩
  · show p.node / 2 = _; rw [h.at']; omega
  · have : ¬ p.node / 2 = 0 := by
      intro e
      apply a
      unfold upPr
      simp [e]
    have := h.at'
    omega
  · have := h.vN; omega
  · have : ¬ p.node / 2 = 0 := by
      intro e
      apply a
      unfold upPr
      simp [e]
    have := h.at'
    exact h.rel.par v (by omega) h.vN h.f3

/-- A Fold or an Unfold ends at its target. -/
theorem Here.cup (h : Here c L P i v p n) (k : CK c L P) (h15 : 15 ≤ p.phase) (h18 : p.phase ≤ 18) (b : Bool) (vl : Int) (hb : (p.phase = 15 ∧ b = n.shut) ∨ (16 ≤ p.phase ∧ b = false)) :
    CRel c (L.setP i (upPr { p with val := vl })) (P.foc v { n with shut := b } i (toPP (upPr { p with val := vl }))) := by
  have hu := up_phase { p with val := vl }
  have hlg := h.lg
  have hat : atP (upPr { p with val := vl }) = atP p := by
    rw [up_at (p := { p with val := vl }) h.at']
    unfold atP
    rw [if_pos (by omega), h.toNat]
  refine h.cgate k h15 h18 b hat (up_done _) (by omega) rfl (h.qup vl) ((h.cq k.ci).out hu rfl rfl) (fun a => by omega) (fun a => by omega) (fun a => by omega) ?_ ?_
  · have hno : shutP v (upPr { p with val := vl }) = false := shutP_no (by omega) _
    rcases hb with ⟨e1, e2⟩ | ⟨e1, e2⟩
    · rw [e2]
      show n.shut = shutL v (L.procs.set i ((L.procs.getD i (0, upPr { p with val := vl })).1, upPr { p with val := vl }))
      rw [shutL_set (v : Int) L.procs i h.hi (_, upPr { p with val := vl }) (by show shutP v (upPr { p with val := vl }) = _; rw [h.ep, hno, shutP_no (by omega)])]
      have := k.si.shut v h.v1 h.vN h.f3
      rw [h.en] at this
      exact this
    · rw [e2]
      exact (h.alone k e1 h18 _ hno).symm
  · have e1 : potP p = 3 * Nat.log2 v := by unfold potP; rw [if_neg (by omega), if_neg (by omega), h.toNat]
    have e2 : potP (upPr { p with val := vl }) = 20 := by unfold potP; rw [if_pos (by omega)]
    omega

theorem Here.cshut (h : Here c L P i v p n) (k : CK c L P) (hph : p.phase = 15) (hs : shutL v L.procs = false) (hf : decide (formH (L.hist v) = 1) = decide (p.kind = 3)) :
    CRel c (L.setP i { p with pat := c.drain, phase := 16 }) (P.foc v { n with shut := true } i (toPP { p with pat := c.drain, phase := 16 })) := by
  have q := h.cq k.ci
  have hdr : 0 ≤ c.drain ∧ c.drain ≤ 16 := by have := h.rel.may; simp [mayC] at this; omega
  have hk3 : 3 ≤ p.kind := by
    by_cases e : p.kind < 3
    · exact absurd ⟨by omega, by omega⟩ (q.walk e)
    · omega
  have hf2 := h.nr.form
  have hf3 := h.f3
  refine h.cgate k (by omega) (by omega) true (by simp [atP, hph]) (by simp) (by simp) rfl (h.qgate 16 c.drain (by simp) (by omega)) ⟨q.kinds, fun a => by have : p.kind < 3 := a; omega, fun a => ?_, fun _ _ => ?_⟩ (fun _ => rfl) (fun _ => Or.inr hs) (by simp) ?_ (by simp [potP, hph])
  · obtain ⟨a1, a2, a3⟩ := q.chg hk3
    refine ⟨a1, a2, Or.inr (Or.inl ⟨by simp, by simp, ?_⟩)⟩
    rcases a3 with a3 | a3 | a3
    · omega
    · exact a3.2.2
    · omega
  · show formH (L.hist p.node.toNat) = if p.kind = 3 then 1 else 2
    rw [h.toNat]
    simp only [decide_eq_decide] at hf
    split <;> omega
  · refine (shutL_of (j := i) (by simpa using h.hi) ?_).symm
    simp only [List.getElem_set_self]
    exact shutP_yes h.at' (by simp) (by simp)

theorem Here.cdrain (h : Here c L P i v p n) (k : CK c L P) (hph : p.phase = 16) :
    CRel c (L.setP i (drainCh L v p)) (P.foc v n i (toPP (drainCh L v p))) := by
  have q := h.cq k.ci
  have hpt := h.q.pat
  have hk3 : 3 ≤ p.kind := by
    by_cases e : p.kind < 3
    · exact absurd ⟨by omega, by omega⟩ (q.walk e)
    · omega
  obtain ⟨a1, a2, a3⟩ := q.chg hk3
  have a4 : p.node = p.onode := by
    rcases a3 with a3 | a3 | a3
    · omega
    · exact a3.2.2
    · omega
  have hform := q.gform (by omega) (by omega)
  have hsn : n.shut = true := by
    have := k.si.shut v h.v1 h.vN h.f3
    rw [h.en] at this
    rw [this]
    exact shutL_of h.hi (by rw [h.ep]; exact shutP_yes h.at' (by omega) (by omega))
  have main : ∀ ph pt : Int, (ph = 16 ∨ ph = 17 ∨ ph = 18) → pt ≤ 1000 → (ph = 17 → insideL v L.procs = 0) → CRel c (L.setP i { p with pat := pt, phase := ph }) (P.foc v n i (toPP { p with pat := pt, phase := ph })) := by
    intro ph pt hp hpt h17
    have en : ({ n with shut := true } : PN) = n := by rw [← hsn]
    have hb : true = shutL v (L.setP i { p with pat := pt, phase := ph }).procs := by
      refine (shutL_of (j := i) (by simpa using h.hi) ?_).symm
      simp only [List.getElem_set_self]
      exact shutP_yes h.at' (by show 16 ≤ ph; omega) (by show ph ≤ 18; omega)
    have hpot : potP p ≤ potP { p with pat := pt, phase := ph } := by
      show (if p.phase = 19 ∨ p.phase = 20 then 20 else if p.phase = 11 ∨ p.phase = 13 ∨ p.phase = 14 then 3 * Nat.log2 p.node.toNat + 1 else 3 * Nat.log2 p.node.toNat) ≤ (if ph = 19 ∨ ph = 20 then 20 else if ph = 11 ∨ ph = 13 ∨ ph = 14 then 3 * Nat.log2 p.node.toNat + 1 else 3 * Nat.log2 p.node.toNat)
      rw [if_neg (by omega), if_neg (by omega), if_neg (by omega), if_neg (by omega)]
      omega
    have := h.cgate k (p' := { p with pat := pt, phase := ph }) (by omega) (by omega) true (by unfold atP; rw [if_pos (by show ph = 0 ∨ ph = 15 ∨ ph = 16 ∨ ph = 17 ∨ ph = 18; omega), if_pos (by omega)]) (fun a => absurd a (by show ph ≠ 20; omega)) (by show ph = 16 ∨ ph = 17 ∨ ph = 18 ∨ ph = 19 ∨ ph = 20; omega) rfl (h.qgate ph pt hp hpt) ⟨q.kinds, fun a => by have : p.kind < 3 := a; omega, fun _ => ⟨a1, a2, Or.inr (Or.inl ⟨by show 15 ≤ ph; omega, by show ph ≤ 18; omega, a4⟩)⟩, fun _ _ => hform⟩ (fun _ => rfl) (fun _ => Or.inl (by omega)) h17 hb hpot
    rw [en] at this
    exact this
  unfold drainCh
  split
  · rename_i h0
    exact main 17 p.pat (by omega) hpt (fun _ => h0)
  · split
    · have := main p.phase (p.pat - 1) (by omega) (by omega) (fun a => by omega)
      exact this
    · exact main 18 p.pat (by omega) hpt (fun a => by omega)
end

theorem side_up : ∀ u : Fin 32, ∀ w : Fin 64, 1 ≤ u.1 → side u.1 w.1 ≠ 0 → 2 ≤ w.1 ∧ (w.1 / 2 = u.1 ∨ side u.1 (w.1 / 2) ≠ 0) := by decide +kernel
theorem climb_self_kid : ∀ v : Fin 32, 1 ≤ v.1 → climb 6 v.1 v.1 = v.1 ∧ climb 6 (2 * v.1) v.1 = v.1 ∧ climb 6 (2 * v.1 + 1) v.1 = v.1 := by decide +kernel

section
variable {c : Conf} {L : Lay} {P : PLay} {i v : Nat} {p p' : Pr} {n : PN}

/-- Who is about when a target is changed. -/
structure Quiet (ps : Ps) (i v : Nat) : Prop where
  at' : ∀ j, (hj : j < ps.length) → j ≠ i → (ps[j]).2.phase ≠ 20 → (ps[j]).2.node = (v : Int) → (ps[j]).2.phase = 0 ∨ (ps[j]).2.phase = 1 ∨ (ps[j]).2.phase = 2 ∨ (ps[j]).2.phase = 15
  kid : ∀ j, (hj : j < ps.length) → (ps[j]).2.phase ≠ 20 → (ps[j]).2.node ≠ 2 * (v : Int) ∧ (ps[j]).2.node ≠ 2 * (v : Int) + 1
  hold : ∀ j, (hj : j < ps.length) → holdsP v (ps[j]).2 = true → (ps[j]).2.node = (v : Int) ∧ ((ps[j]).2.phase = 1 ∨ (ps[j]).2.phase = 2)

theorem Here.quiet (h : Here c L P i v p n) (k : CK c L P) (hph : p.phase = 17) : Quiet L.procs i v := by
  have hv := h.v32
  have ho : ∀ j, (hj : j < L.procs.length) → holdsP v (L.procs[j]).2 = true → (L.procs[j]).2.node = (v : Int) ∧ ((L.procs[j]).2.phase = 1 ∨ (L.procs[j]).2.phase = 2) := by
    intro j hj hh
    have := k.ci.calm i j h.hi hj (by rw [h.ep]; exact hph) (by rw [h.ep, h.toNat]; exact hh)
    rw [h.ep, h.at'] at this
    exact this
  obtain ⟨cs, c0, c1⟩ := climb_self_kid ⟨v, hv⟩ h.v1
  simp only at cs c0 c1
  have h1 := h.v1
  refine ⟨fun j hj hne h20 hn => ?_, fun j hj h20 => ?_, ho⟩
  · by_cases e : (L.procs[j]).2.phase = 0 ∨ (L.procs[j]).2.phase = 15
    · omega
    · by_cases g : 16 ≤ (L.procs[j]).2.phase ∧ (L.procs[j]).2.phase ≤ 18
      · exact absurd (k.ci.gate j i hj h.hi g.1 g.2 (by rw [h.ep]; omega) (by rw [h.ep]; omega) (by rw [h.ep, hn, h.at'])) hne
      · have : holdsP v (L.procs[j]).2 = true := by
          unfold holdsP atP
          rw [if_neg (by omega), hn, Int.toNat_natCast, cs]
          simp [h20]
        have := ho j hj this
        omega
  · have key : ∀ b : Nat, b = 0 ∨ b = 1 → (L.procs[j]).2.node = ((2 * v + b : Nat) : Int) → False := by
      intro b hb hn
      have : holdsP v (L.procs[j]).2 = true := by
        unfold holdsP atP
        rw [hn, Int.toNat_natCast]
        split
        · have e : (2 * v + b) / 2 = v := by omega
          rw [e, cs]
          simp [h20]
        · rcases hb with rfl | rfl
          · rw [Nat.add_zero, c0]; simp [h20]
          · rw [c1]; simp [h20]
      have := (ho j hj this).1
      omega
    exact ⟨fun e => key 0 (Or.inl rfl) (by omega), fun e => key 1 (Or.inr rfl) (by omega)⟩

/-- A token that counts at v stands below v, or waits there. -/
theorem Quiet.even {ps : Ps} (q : Quiet ps i v) (hv : v < 32) (h1 : 1 ≤ v) (hn : ∀ j, (hj : j < ps.length) → (ps[j]).2.phase ≠ 20 → ∃ u : Nat, (ps[j]).2.node = (u : Int) ∧ u < 32) (hi : ∀ hi : i < ps.length, 12 < (ps[i]).2.phase) : sumP (eP ps v) ps = 0 := by
  refine sumP_zero _ _ fun j hj => ?_
  by_cases h12 : (ps[j]).2.phase ≤ 12
  · obtain ⟨u, e, hu⟩ := hn j hj (by omega)
    have hji : j ≠ i := by intro e'; subst e'; have := hi hj; omega
    have w0 : wcP ps v (ps[j]).2 = 0 := by
      unfold wcP
      rw [if_neg]
      rintro ⟨a, b, _⟩
      have := q.at' j hj hji (by omega) a
      unfold metB at b
      simp only [Bool.and_eq_true, Bool.or_eq_true, decide_eq_true_eq] at b
      omega
    have s0 : side v (ps[j]).2.node.toNat = 0 := by
      by_cases hs : side v (ps[j]).2.node.toNat = 0
      · exact hs
      · exfalso
        rw [e, Int.toNat_natCast] at hs
        obtain ⟨a, b⟩ := side_holds ⟨v, hv⟩ ⟨u, by omega⟩ h1 hs
        simp only at a b
        have hh : holdsP v (ps[j]).2 = true := by
          unfold holdsP atP
          rw [e, Int.toNat_natCast]
          have h20 : ¬ (ps[j]).2.phase = 20 := by omega
          split
          · rw [b]; simp [h20]
          · rw [a]; simp [h20]
        have := (q.hold j hj hh).1
        rw [e] at this
        have e' : u = v := by omega
        rw [e'] at hs
        exact hs (side_self ⟨v, hv⟩ h1)
    unfold eP
    rw [w0, s0]
    simp
  · exact eP_out (by omega) v

theorem leaf_below {H : Nat → Hist} {N v : Nat} (hN : N ≤ 32) (hv : v < 32) (h1 : 1 ≤ v) (par : ∀ u, 2 ≤ u → u < N → formH (H u) ≠ 3 → formH (H (u / 2)) = 1) (T : Nat → Prop) (h0 : formH (H v) ≠ 1 ∨ (∀ w, w / 2 = v → T w)) (hT : ∀ w, T w → formH (H w) ≠ 1) :
    ∀ w, w < N → side v w ≠ 0 → ¬ T w → formH (H w) = 3 := by
  intro w
  induction w using Nat.strongRecOn with
  | ind w ih =>
    intro hw hs hn
    obtain ⟨a, b⟩ := side_up ⟨v, hv⟩ ⟨w, by omega⟩ h1 hs
    simp only at a b
    by_cases f3 : formH (H w) = 3
    · exact f3
    · exfalso
      have hp := par w a hw f3
      rcases b with b | b
      · rcases h0 with h0 | h0
        · rw [b] at hp; exact h0 hp
        · exact hn (h0 w b)
      · by_cases ht : T (w / 2)
        · exact hT _ ht hp
        · have := ih (w / 2) (by omega) (by omega) b ht
          omega

/-- How the two children of a node share what has come, if nobody is about. -/
theorem even_quiet {ps : Ps} {H : Nat → Hist} {N v : Nat} (hv : 2 * v + 1 < N) (hN : N ≤ 32) (h1 : 1 ≤ v) (hz : ∀ w, w < N → w ≠ 2 * v → w ≠ 2 * v + 1 → side v w ≠ 0 → formH (H w) = 3) (hp : sumP (eP ps v) ps = 0) : evenS ps H N v = balH (H (2 * v)) - balH (H (2 * v + 1)) := by
  obtain ⟨s0, s1⟩ := side_kid ⟨v, by omega⟩ ⟨v, by omega⟩ h1 h1
  simp only [if_true] at s0 s1
  unfold evenS
  rw [hp]
  have key : ∀ w, w < N → w ≠ 2 * v → w ≠ 2 * v + 1 → side v w * balH (H w) = 0 := by
    intro w hw a b
    by_cases hs : side v w = 0
    · rw [hs]; simp
    · have : balH (H w) = 0 := by unfold balH; rw [if_neg (by rw [hz w hw a b hs]; simp)]
      rw [this]; simp
  have e1 := sumN_upd (fun w => if w = 2 * v then 0 else side v w * balH (H w)) (fun w => side v w * balH (H w)) (2 * v) N (by omega) (fun k _ hne => by simp [hne])
  have e2 := sumN_upd (fun _ => 0) (fun w => if w = 2 * v then 0 else side v w * balH (H w)) (2 * v + 1) N hv (fun k hk hne => by
    by_cases e : k = 2 * v
    · simp [e]
    · simp only [if_neg e]
      exact key k hk e hne)
  have e3 : sumN (fun _ => 0) N = 0 := sumN_zero _ _ fun _ _ => rfl
  rw [e1, e2, e3]
  have n1 : ¬ (2 * v + 1 = 2 * v) := by omega
  simp only [if_true, if_neg n1, s0, s1]
  omega

def three (v : Nat) (l0 l1 l2 : Hist) (H : Nat → Hist) (u : Nat) : Hist := if u = v then l0 else if u = 2 * v then l1 else if u = 2 * v + 1 then l2 else H u
theorem three_v {v : Nat} {l0 l1 l2 : Hist} {H : Nat → Hist} : three v l0 l1 l2 H v = l0 := by unfold three; rw [if_pos rfl]
theorem three_0 {v : Nat} {l0 l1 l2 : Hist} {H : Nat → Hist} (h : 1 ≤ v) : three v l0 l1 l2 H (2 * v) = l1 := by unfold three; rw [if_neg (by omega), if_pos rfl]
theorem three_1 {v : Nat} {l0 l1 l2 : Hist} {H : Nat → Hist} (h : 1 ≤ v) : three v l0 l1 l2 H (2 * v + 1) = l2 := by unfold three; rw [if_neg (by omega), if_neg (by omega), if_pos rfl]
theorem three_else {v u : Nat} {l0 l1 l2 : Hist} {H : Nat → Hist} (h0 : u ≠ v) (h1 : u ≠ 2 * v) (h2 : u ≠ 2 * v + 1) : three v l0 l1 l2 H u = H u := by unfold three; rw [if_neg h0, if_neg h1, if_neg h2]

/-- The target and its children are made anew. -/
structure Made (c : Conf) (L : Lay) (P : PLay) (i v : Nat) (p' : Pr) (l0 l1 l2 : Hist) (n0 n1 n2 : PN) (L' : Lay) (P' : PLay) : Prop where
  Lc : L'.c = L.c
  Lp : ∃ pb, L'.procs = L.procs.set i (pb, p')
  Ll : L'.past.length = L.past.length
  Lh : ∀ u, L'.hist u = three v l0 l1 l2 L.hist u
  Lt : totL L'.past ≤ totL L.past + 3
  Pc : P'.c = P.c
  Pl : P'.nodes.length = 32
  Pn : ∀ u, P'.nodes.getD u zeroPN = if u = v then n0 else if u = 2 * v then n1 else if u = 2 * v + 1 then n2 else P.nodes.getD u zeroPN
  Pp : P'.procs = P.procs.set i (toPP p')

structure MadeOk (c : Conf) (L : Lay) (v : Nat) (l0 l1 l2 : Hist) (n0 n1 n2 : PN) (L' : Lay) : Prop where
  forms : (formH l0 = 1 ∧ formH l1 = 2 ∧ formH l2 = 2 ∧ formH (L.hist v) = 2) ∨ (formH l0 = 2 ∧ formH l1 = 3 ∧ formH l2 = 3 ∧ formH (L.hist v) = 1 ∧ formH (L.hist (2 * v)) = 2 ∧ formH (L.hist (2 * v + 1)) = 2)
  r0 : NRel c L'.procs v l0 n0
  r1 : NRel c L'.procs (2 * v) l1 n1
  r2 : NRel c L'.procs (2 * v + 1) l2 n2
  s0 : n0.shut = false
  s1 : n1.shut = false
  s2 : n2.shut = false
  f0 : 0 ≤ (fromH l0).1.n ∧ (fromH l0).1.n ≤ 1000
  f1 : 0 ≤ (fromH l1).1.n ∧ (fromH l1).1.n ≤ 1000
  f2 : 0 ≤ (fromH l2).1.n ∧ (fromH l2).1.n ≤ 1000
  i0 : n0.items.length ≤ 10000
  i1 : n1.items.length ≤ 10000
  i2 : n2.items.length ≤ 10000
  bal : balH l0 + balH l1 + balH l2 = balH (L.hist v) + balH (L.hist (2 * v)) + balH (L.hist (2 * v + 1))
  tog : formH l0 = 1 → balH l1 - balH l2 = togH l0
  lies : c.kind = 1 → (formH l0 = 2 → ((itemsH l0).length : Int) = balH l0) ∧ (formH l1 = 2 → ((itemsH l1).length : Int) = balH l1) ∧ (formH l2 = 2 → ((itemsH l2).length : Int) = balH l2)
  sum : putN l0 + putN l1 + putN l2 ≤ putN (L.hist v) + putN (L.hist (2 * v)) + putN (L.hist (2 * v + 1))
  nog : c.kind = 0 → manyH 7 (-1) l0 = 0 ∧ manyH 7 (-1) l1 = 0 ∧ manyH 7 (-1) l2 = 0

theorem sumN_three (f : Nat → Hist → Int) (H : Nat → Hist) (v N : Nat) (l0 l1 l2 : Hist) (h1 : 1 ≤ v) (hN : 2 * v + 1 < N) :
    sumN (fun w => f w (three v l0 l1 l2 H w)) N = sumN (fun w => f w (H w)) N - f v (H v) + f v l0 - f (2 * v) (H (2 * v)) + f (2 * v) l1 - f (2 * v + 1) (H (2 * v + 1)) + f (2 * v + 1) l2 := by
  have a := sumN_upd (fun w => f w (H w)) (fun w => f w (if w = v then l0 else H w)) v N (by omega) (fun k _ hne => by simp [hne])
  have b := sumN_upd (fun w => f w (if w = v then l0 else H w)) (fun w => f w (if w = v then l0 else if w = 2 * v then l1 else H w)) (2 * v) N (by omega) (fun k _ hne => by simp [hne])
  have d := sumN_upd (fun w => f w (if w = v then l0 else if w = 2 * v then l1 else H w)) (fun w => f w (three v l0 l1 l2 H w)) (2 * v + 1) N hN (fun k _ hne => by simp [three, hne])
  have n1 : ¬ (2 * v = v) := by omega
  have n2 : ¬ (2 * v + 1 = v) := by omega
  have n3 : ¬ (2 * v + 1 = 2 * v) := by omega
  rw [d, b, a]
  simp only [if_true, if_neg n1, if_neg n2, if_neg n3, three]

theorem Here.made (h : Here c L P i v p n) (k : CK c L P) (hph : p.phase = 17) (vl : Int) {l0 l1 l2 : Hist} {n0 n1 n2 : PN} {L' : Lay} {P' : PLay} (m : Made c L P i v (upPr { p with val := vl }) l0 l1 l2 n0 n1 n2 L' P') (o : MadeOk c L v l0 l1 l2 n0 n1 n2 L') : CRel c L' P' := by
  have hep := h.ep
  have hv := h.v32
  have h1v := h.v1
  have hl := h.rel.lenle
  have hlg := h.lg
  have ci := k.ci
  have Q := h.quiet k hph
  obtain ⟨pb, hLp⟩ := m.Lp
  have hup := up_phase { p with val := vl }
  have hupn : (upPr { p with val := vl }).node = ((v / 2 : Nat) : Int) := by show p.node / 2 = _; rw [h.at']; omega
  have hkid : 2 * v + 1 < L.past.length := by
    obtain ⟨u, e1, _, _, e4⟩ := ci.gnode h.rel.len h.hi (by rw [hep]; omega) (by rw [hep]; omega)
    rw [hep, h.at'] at e1
    omega
  have hcq := h.cq ci
  have hk3 : 3 ≤ p.kind := by
    by_cases e : p.kind < 3
    · exact absurd ⟨by omega, by omega⟩ (hcq.walk e)
    · omega
  have hlen : L'.procs.length = L.procs.length := by rw [hLp, List.length_set]
  have hget : ∀ j, (hj : j < L.procs.length) → (hj' : j < L'.procs.length) → j ≠ i → L'.procs[j] = L.procs[j] := fun j hj hj' hne => by simp only [hLp, List.getElem_set_ne (Ne.symm hne)]
  have hgi : ∀ hi' : i < L'.procs.length, L'.procs[i] = (pb, upPr { p with val := vl }) := fun hi' => by simp only [hLp, List.getElem_set_self]
  have hat : atP (upPr { p with val := vl }) = atP p := by
    rw [up_at (p := { p with val := vl }) h.at']
    unfold atP
    rw [if_pos (by omega), h.toNat]
  have hin : ∀ u, 1 ≤ u → holdsP u (upPr { p with val := vl }) = holdsP u p := fun u hu => by rw [holds_eq (up_done _) u hu, holds_eq (fun e => absurd e h.live) u hu, hat]
  have e_v : L'.hist v = l0 := by rw [m.Lh, three_v]
  have e_0 : L'.hist (2 * v) = l1 := by rw [m.Lh, three_0 h1v]
  have e_1 : L'.hist (2 * v + 1) = l2 := by rw [m.Lh, three_1 h1v]
  have e_u : ∀ u, u ≠ v → u ≠ 2 * v → u ≠ 2 * v + 1 → L'.hist u = L.hist u := fun u a b d => by rw [m.Lh, three_else a b d]
  have hf0 : formH l0 ≠ 3 := by rcases o.forms with e | e <;> omega
  have old1 : formH (L.hist (2 * v)) ≠ 1 ∧ formH (L.hist (2 * v + 1)) ≠ 1 := by
    rcases o.forms with e | e
    · have a : ∀ w, w / 2 = v → 2 ≤ w → w < L.past.length → formH (L.hist w) = 3 := by
        intro w hw h2 hwN
        by_cases f : formH (L.hist w) = 3
        · exact f
        · have := ci.par w h2 hwN f
          rw [hw] at this
          omega
      have a0 := a (2 * v) (by omega) (by omega) (by omega)
      have a1 := a (2 * v + 1) (by omega) (by omega) hkid
      omega
    · omega
  have hlive : ∀ j, (hj : j < L.procs.length) → (L.procs[j]).2.phase ≠ 20 → ∃ u : Nat, (L.procs[j]).2.node = (u : Int) ∧ 1 ≤ u ∧ u < L.past.length ∧ formH (L.hist u) ≠ 3 ∧ u ≠ 2 * v ∧ u ≠ 2 * v + 1 := by
    intro j hj h20
    obtain ⟨u, e, a, b, d⟩ := (h.rel.qs j hj).live h20
    obtain ⟨z0, z1⟩ := Q.kid j hj h20
    exact ⟨u, e, a, b, d, by omega, by omega⟩
  have par' : ∀ u, 2 ≤ u → u < L.past.length → formH (L'.hist u) ≠ 3 → formH (L'.hist (u / 2)) = 1 := by
    intro u h2 hu hf
    by_cases a : u / 2 = v
    · rw [a, e_v]
      have : u = 2 * v ∨ u = 2 * v + 1 := by omega
      rcases o.forms with e | e
      · exact e.1
      · rcases this with x | x
        · rw [x, e_0] at hf; omega
        · rw [x, e_1] at hf; omega
    · have u0 : u ≠ 2 * v := by omega
      have u1 : u ≠ 2 * v + 1 := by omega
      have base : formH (L.hist u) ≠ 3 ∨ u = v := by
        by_cases e : u = v
        · exact Or.inr e
        · rw [e_u u e u0 u1] at hf; exact Or.inl hf
      have hp : formH (L.hist (u / 2)) = 1 := by
        rcases base with e | e
        · exact ci.par u h2 hu e
        · subst e; exact ci.par u h2 hu h.f3
      have b0 : u / 2 ≠ 2 * v := by intro e; rw [e] at hp; exact old1.1 hp
      have b1 : u / 2 ≠ 2 * v + 1 := by intro e; rw [e] at hp; exact old1.2 hp
      rw [e_u _ a b0 b1]
      exact hp
  have hqi : QInv c L'.hist L.past.length L.procs.length i (upPr { p with val := vl }) := by
    have q := h.qup vl
    refine ⟨q.phase, q.kind, q.done, fun a => ?_, fun _ b => by omega, fun _ b => by omega, q.slot, ⟨q.wide.1, q.wide.2.1, fun _ b => by omega⟩, fun a => by omega, q.pat, q.tick.1, q.tick.2.1, fun a => by omega⟩
    obtain ⟨u, e, a1, a2, a3⟩ := q.live a
    have eu : u = v / 2 := by omega
    refine ⟨u, e, a1, a2, ?_⟩
    rw [e_u u (by omega) (by omega) (by omega)]
    exact a3
  have hqj : ∀ j, (hj : j < L.procs.length) → j ≠ i → QInv c L'.hist L.past.length L.procs.length j (L.procs[j]).2 := by
    intro j hj hne
    have q := h.rel.qs j hj
    have hh : ∀ x, 3 ≤ x → x ≤ 14 → (L.procs[j]).2.phase = x → L'.hist (L.procs[j]).2.node.toNat = L.hist (L.procs[j]).2.node.toNat := by
      intro x x3 x14 hx
      obtain ⟨u, e, _, _, _, u0, u1⟩ := hlive j hj (by omega)
      rw [e, Int.toNat_natCast]
      refine e_u u (fun ev => ?_) u0 u1
      have := Q.at' j hj hne (by omega) (by rw [e, ev])
      omega
    refine ⟨q.phase, q.kind, q.done, fun a => ?_, fun a b => ?_, fun a b => ?_, q.slot, q.wide, q.mind, q.pat, q.tick.1, q.tick.2.1, fun a => ?_⟩
    · obtain ⟨u, e, a1, a2, a3, u0, u1⟩ := hlive j hj a
      refine ⟨u, e, a1, a2, ?_⟩
      by_cases ev : u = v
      · rw [ev, e_v]; exact hf0
      · rw [e_u u ev u0 u1]; exact a3
    · rw [hh _ a (by omega) rfl]; exact q.inner a b
    · rw [hh _ (by omega) b rfl]; exact q.leaf a b
    · rw [hh 13 (by omega) (by omega) a]; exact q.tick.2.2 a
  have h13 : ∀ j, (hj' : j < L'.procs.length) → (L'.procs[j]).2.phase = 13 → ∃ hj : j < L.procs.length, j ≠ i ∧ L'.procs[j] = L.procs[j] ∧ L'.hist (L.procs[j]).2.node.toNat = L.hist (L.procs[j]).2.node.toNat := by
    intro j hj' hx
    have hj : j < L.procs.length := by omega
    have hne : j ≠ i := by intro e; subst e; rw [hgi hj'] at hx; simp only at hx; omega
    have eg := hget j hj hj' hne
    rw [eg] at hx
    refine ⟨hj, hne, eg, ?_⟩
    obtain ⟨u, e, _, _, _, u0, u1⟩ := hlive j hj (by omega)
    rw [e, Int.toNat_natCast]
    refine e_u u (fun ev => ?_) u0 u1
    have := Q.at' j hj hne (by omega) (by rw [e, ev])
    omega
  have hw : WRel c L' P' := by
    refine ⟨h.rel.may, m.Lc.trans h.rel.cL, m.Pc.trans h.rel.cP, by rw [m.Ll]; exact h.rel.len, by rw [e_u 0 (by omega) (by omega) (by omega)]; exact h.rel.hist0, m.Pl, ?_, by rw [hlen]; exact h.rel.np, ?_, ?_, ?_, ?_, ?_, ?_, ?_, ?_, ?_, ?_, ?_, ?_⟩
    · rw [m.Pp, h.rel.procs, hLp, List.map_set]
    · have := liveL_set L.procs i h.hi (pb, upPr { p with val := vl })
      rw [hep, if_neg h.live] at this
      rw [hLp]
      have hf := h.rel.full
      simp only at this
      split at this <;> omega
    · intro u h1 hu
      rw [m.Ll] at hu
      rw [m.Pn]
      by_cases a : u = v
      · rw [if_pos a, a, e_v]; exact o.r0
      · rw [if_neg a]
        by_cases b : u = 2 * v
        · rw [if_pos b, b, e_0]; exact o.r1
        · rw [if_neg b]
          by_cases d : u = 2 * v + 1
          · rw [if_pos d, d, e_1]; exact o.r2
          · rw [if_neg d, e_u u a b d, hLp]
            exact (h.rel.nodes u h1 hu).other h.hi (pb, upPr { p with val := vl }) (by rw [hep]; exact hin u h1) (fun k => ⟨by rw [hep]; exact nowait (by omega) (by omega) _ _, nowait (by show (upPr { p with val := vl }).phase ≠ 6; omega) (by show (upPr { p with val := vl }).phase ≠ 7; omega) _ _⟩)
    · intro u h1 hu
      rw [m.Ll] at h1
      rw [m.Pn, if_neg (by omega), if_neg (by omega), if_neg (by omega)]
      exact h.rel.past u h1 hu
    · intro j hj'
      have hj : j < L.procs.length := by omega
      rw [m.Ll, hlen]
      by_cases e : j = i
      · subst e; rw [hgi hj']; exact hqi
      · rw [hget j hj hj' e]; exact hqj j hj e
    · intro u h1 hu hf
      rw [m.Ll] at hu ⊢
      by_cases a : u = v
      · subst a
        rw [e_0, e_1]
        rw [e_v] at hf
        rcases o.forms with e | e
        · exact ⟨hkid, by omega, by omega⟩
        · omega
      · have b : u ≠ 2 * v := by intro e; rw [e, e_0] at hf; rcases o.forms with x | x <;> omega
        have d : u ≠ 2 * v + 1 := by intro e; rw [e, e_1] at hf; rcases o.forms with x | x <;> omega
        rw [e_u u a b d] at hf
        obtain ⟨k1, k2, k3⟩ := h.rel.kids u h1 hu hf
        have go : ∀ w, w = 2 * u ∨ w = 2 * u + 1 → formH (L.hist w) ≠ 3 → formH (L'.hist w) ≠ 3 := by
          intro w hw hf3
          by_cases x : w = v
          · rw [x, e_v]; exact hf0
          · rw [e_u w x (by omega) (by omega)]; exact hf3
        exact ⟨k1, go _ (Or.inl rfl) k2, go _ (Or.inr rfl) k3⟩
    · intro u h2 hu hf
      rw [m.Ll] at hu
      have := par' u h2 hu hf
      omega
    · intro u hu
      rw [m.Ll] at hu
      rw [m.Lh]
      unfold three
      split
      · exact o.f0
      · split
        · exact o.f1
        · split
          · exact o.f2
          · exact h.rel.fn u hu
    · have e1 := potL_set L.procs i h.hi (pb, upPr { p with val := vl })
      have e2 := h.rel.pot
      have e3 := m.Lt
      rw [hep] at e1
      have e4 : potP p = 3 * Nat.log2 v := by unfold potP; rw [if_neg (by omega), if_neg (by omega), h.toNat]
      have e5 : potP (upPr { p with val := vl }) = 20 := by unfold potP; rw [if_pos (by omega)]
      rw [hLp]
      simp only at e1
      omega
    · intro j hj' hx
      obtain ⟨hj, hne, eg, eh⟩ := h13 j hj' hx
      rw [eg] at hx ⊢
      rw [eh]
      exact h.rel.tk0 j hj hx
    · intro a b ha' hb' h1 h2 h3 h4
      obtain ⟨ha, _, ea, _⟩ := h13 a ha' h1
      obtain ⟨hb, _, eb, _⟩ := h13 b hb' h2
      rw [ea] at h1 h3 h4
      rw [eb] at h2 h3 h4
      exact h.rel.uniq a b ha hb h1 h2 h3 h4
    · intro u h1 hu
      rw [m.Pn]
      split
      · exact o.i0
      · split
        · exact o.i1
        · split
          · exact o.i2
          · exact h.rel.isz u h1 hu
    · by_cases e : 1 = v
      · rw [e, e_v]; exact hf0
      · rw [e_u 1 e (by omega) (by omega)]; exact h.rel.root
  have hsh : ∀ u, 1 ≤ u → u < L.past.length → u ≠ v → shutL u L'.procs = shutL u L.procs := by
    intro u h1 hu hne
    rw [hLp, shutL_set _ _ _ h.hi]
    rw [hep, shutP_else h.at' hne]
    exact shutP_no (p := upPr { p with val := vl }) (by omega) _
  have hno : ∀ j, (hj' : j < L'.procs.length) → (u : Nat) → (u = v ∨ u = 2 * v ∨ u = 2 * v + 1) → shutP u (L'.procs[j]).2 = false := by
    intro j hj' u hu
    by_cases e : j = i
    · subst e
      rw [hgi hj']
      exact shutP_no (p := upPr { p with val := vl }) (by omega) _
    · have hj : j < L.procs.length := by omega
      rw [hget j hj hj' e]
      by_cases g : 16 ≤ (L.procs[j]).2.phase ∧ (L.procs[j]).2.phase ≤ 18
      · obtain ⟨w, ew, _, _, _, w0, w1⟩ := hlive j hj (by omega)
        refine shutP_else ew (fun e' => ?_)
        have : w = v := by omega
        have := Q.at' j hj e (by omega) (by rw [ew, this])
        omega
      · exact shutP_no g _
  have hshN : ∀ u : Nat, (u = v ∨ u = 2 * v ∨ u = 2 * v + 1) → shutL u L'.procs = false := by
    intro u hu
    cases hs : shutL u L'.procs with
    | false => rfl
    | true =>
      obtain ⟨j, hj', e⟩ := shutL_ex hs
      rw [hno j hj' u hu] at e
      simp at e
  refine ⟨hw, ⟨fun u h1 hu hf => ?_⟩, ?_⟩
  · rw [m.Ll] at hu
    rw [m.Pn]
    by_cases a : u = v
    · rw [if_pos a, hshN u (Or.inl a)]; exact o.s0
    · rw [if_neg a]
      by_cases b : u = 2 * v
      · rw [if_pos b, hshN u (Or.inr (Or.inl b))]; exact o.s1
      · rw [if_neg b]
        by_cases d : u = 2 * v + 1
        · rw [if_pos d, hshN u (Or.inr (Or.inr d))]; exact o.s2
        · rw [if_neg d, hsh u h1 hu a]
          rw [e_u u a b d] at hf
          exact k.si.shut u h1 hu hf
  · have hkp : (upPr { p with val := vl }).kind = p.kind := rfl
    have hsumE : ∀ u, sumP (eP L'.procs u) L'.procs = sumP (eP L.procs u) L.procs := by
      intro u
      rw [hLp, sumP_congr _ (eP L.procs u) _ fun j hj => eP_set (x := (pb, upPr { p with val := vl })) h.hi (by rw [hep]; rfl) u _, sumP_set (eP L.procs u) L.procs i h.hi, hep, eP_change hk3, eP_change (p := upPr { p with val := vl }) hk3]
      omega
    rw [m.Ll]
    refine ⟨fun j hj' => ?_, fun a b ha' hb' x1 x2 x3 x4 x5 => ?_, fun a b ha' hb' x1 x2 => ?_, par', fun u h1 hu hf => ?_, fun hk u h1 hu hf => ?_, ?_, fun hk u hu => ?_⟩
    · have hj : j < L.procs.length := by omega
      by_cases e : j = i
      · subst e
        rw [hgi hj']
        exact (CQ.out hcq hup rfl rfl : CQ c L.hist (upPr { p with val := vl })) |> fun q => ⟨q.kinds, q.walk, q.chg, fun (a : 16 ≤ (upPr { p with val := vl }).phase) (b : (upPr { p with val := vl }).phase ≤ 18) => by omega⟩
      · rw [hget j hj hj' e]
        have q := ci.cq j hj
        refine ⟨q.kinds, q.walk, q.chg, fun a b => ?_⟩
        obtain ⟨w, ew, _, _, _, w0, w1⟩ := hlive j hj (by omega)
        have wv : w ≠ v := by
          intro e'
          have := Q.at' j hj e (by omega) (by rw [ew, e'])
          omega
        rw [ew, Int.toNat_natCast, e_u w wv w0 w1]
        have := q.gform a b
        rw [ew, Int.toNat_natCast] at this
        exact this
    · have ha : a < L.procs.length := by omega
      have hb : b < L.procs.length := by omega
      have ea : a ≠ i := by intro e; subst e; rw [hgi ha'] at x1 x2; simp only at x1 x2; omega
      have eb : b ≠ i := by intro e; subst e; rw [hgi hb'] at x3 x4; simp only at x3 x4; omega
      rw [hget a ha ha' ea] at x1 x2 x5
      rw [hget b hb hb' eb] at x3 x4 x5
      exact ci.gate a b ha hb x1 x2 x3 x4 x5
    · have ha : a < L.procs.length := by omega
      have hb : b < L.procs.length := by omega
      have ea : a ≠ i := by intro e; subst e; rw [hgi ha'] at x1; simp only at x1; omega
      rw [hget a ha ha' ea] at x1 x2 ⊢
      by_cases eb : b = i
      · subst eb
        rw [hgi hb'] at x2
        obtain ⟨w, ew, w1, _⟩ := hlive a ha (by omega)
        simp only at x2
        rw [ew, Int.toNat_natCast, hin w w1] at x2
        have := (ci.calm a b ha hb x1 (by rw [ew, Int.toNat_natCast, hep]; exact x2)).2
        rw [hep] at this
        omega
      · rw [hget b hb hb' eb] at x2 ⊢
        exact ci.calm a b ha hb x1 x2
    · have hrw : ∀ w, L'.hist w = three v l0 l1 l2 L.hist w := m.Lh
      by_cases a : u = v
      · subst a
        rw [e_v] at hf ⊢
        have hQ' : sumP (eP L'.procs u) L'.procs = 0 := by
          rw [hsumE u]
          exact Q.even hv h1v (fun j hj h20 => by obtain ⟨w, ew, _, hw', _⟩ := hlive j hj h20; exact ⟨w, ew, by omega⟩) (fun hi' => by rw [hep]; omega)
        rw [even_quiet hkid (by omega) h1v ?_ hQ', e_0, e_1, o.tog hf]
        · omega
        · have hold : formH (L.hist u) ≠ 1 := by rcases o.forms with e | e <;> omega
          intro w hw' w0 w1 hs
          have wu : w ≠ u := by intro e; subst e; exact hs (side_self ⟨w, hv⟩ h1v)
          rw [e_u w wu w0 w1]
          exact leaf_below (by omega) hv h1v ci.par (fun _ => False) (Or.inl hold) (fun _ => False.elim) w hw' hs (fun x => x)
      · have b : u ≠ 2 * v := by intro e; rw [e, e_0] at hf; rcases o.forms with x | x <;> omega
        have d : u ≠ 2 * v + 1 := by intro e; rw [e, e_1] at hf; rcases o.forms with x | x <;> omega
        rw [e_u u a b d] at hf ⊢
        have he := ci.even u h1 hu hf
        unfold evenS at he ⊢
        rw [hsumE u]
        have e1 : sumN (fun w => side u w * balH (L'.hist w)) L.past.length = sumN (fun w => side u w * balH (three v l0 l1 l2 L.hist w)) L.past.length := sumN_congr _ _ _ fun w _ => by simp only [hrw]
        rw [e1, sumN_three (fun w l => side u w * balH l) L.hist v L.past.length l0 l1 l2 h1v hkid]
        obtain ⟨s0, s1⟩ := side_kid ⟨u, by omega⟩ ⟨v, hv⟩ h1 h1v
        simp only [if_neg a] at s0 s1
        rw [s0, s1]
        have hb := o.bal
        have : side u v * balH l0 + side u v * balH l1 + side u v * balH l2 = side u v * balH (L.hist v) + side u v * balH (L.hist (2 * v)) + side u v * balH (L.hist (2 * v + 1)) := by
          rw [← Int.mul_add, ← Int.mul_add, ← Int.mul_add, ← Int.mul_add, hb]
        omega
    · have hst : ∀ w, sumP (stP w) L'.procs = sumP (stP w) L.procs := by
        intro w
        rw [hLp, sumP_set (stP w) L.procs i h.hi, hep, stP_no (p := p) (by omega) (by omega), stP_no (p := upPr { p with val := vl }) (by omega) (by omega)]
        omega
      have hz : ∀ w, (w = v ∨ w = 2 * v ∨ w = 2 * v + 1) → sumP (stP w) L.procs = 0 := by
        intro w hw'
        refine sumP_zero _ _ fun j hj => ?_
        by_cases e : (L.procs[j]).2.phase = 13 ∨ (L.procs[j]).2.phase = 14
        · obtain ⟨x, ex, _, _, _, x0, x1⟩ := hlive j hj (by omega)
          have xv : x ≠ v := by
            intro e'
            have hji : j ≠ i := by intro e''; subst e''; rw [hep] at e; omega
            have := Q.at' j hj hji (by omega) (by rw [ex, e'])
            omega
          unfold stP
          rw [if_neg (by rw [ex]; omega)]
        · exact stP_no (by omega) (by omega) w
      have ho := o.lies hk
      rw [hst u]
      by_cases a : u = v
      · subst a
        rw [e_v] at hf ⊢
        have := ho.1 hf
        rw [hz u (Or.inl rfl)]
        omega
      · by_cases b : u = 2 * v
        · subst b
          rw [e_0] at hf ⊢
          have := ho.2.1 hf
          rw [hz _ (Or.inr (Or.inl rfl))]
          omega
        · by_cases d : u = 2 * v + 1
          · subst d
            rw [e_1] at hf ⊢
            have := ho.2.2 hf
            rw [hz _ (Or.inr (Or.inr rfl))]
            omega
          · rw [e_u u a b d] at hf ⊢
            exact ci.lies hk u h1 hu hf
    · have e1 : sumN (fun w => putN (L'.hist w)) L.past.length = sumN (fun w => putN (three v l0 l1 l2 L.hist w)) L.past.length := sumN_congr _ _ _ fun w _ => by simp only [m.Lh]
      rw [e1, sumN_three (fun _ l => putN l) L.hist v L.past.length l0 l1 l2 h1v hkid, hLp, sumP_set tickP L.procs i h.hi, hep]
      have t0 : tickP p = 0 := by unfold tickP; rw [if_neg (by omega)]
      have t1 : tickP (upPr { p with val := vl }) = 1 := tick_one (by omega)
      have := ci.sum
      have := o.sum
      simp only
      omega
    · have hg := o.nog hk
      rw [m.Lh]
      unfold three
      split
      · exact hg.1
      · split
        · exact hg.2.1
        · split
          · exact hg.2.2
          · exact ci.nog hk u hu
end

theorem climb_up2 : ∀ a : Fin 64, ∀ v : Fin 16, 1 ≤ v.1 → (climb 6 a.1 (2 * v.1) = 2 * v.1 → climb 6 a.1 v.1 = v.1 ∧ a.1 ≠ v.1) ∧ (climb 6 a.1 (2 * v.1 + 1) = 2 * v.1 + 1 → climb 6 a.1 v.1 = v.1 ∧ a.1 ≠ v.1) := by decide +kernel

/-- A leaf that has just become one. -/
theorem leaf_items (c : Conf) (N : Int) (its : List Int) (iv : Value) (l : Hist) (h1 : c.kind = 1 → N = its.length) (h0 : c.kind = 0 → its = []) : ItemsRel c ((⟨2, N, 0, its⟩, iv) :: l) (its.map fun a => (1, a)) := by
  have e9 : ∀ t, takenH ((⟨2, N, 0, its⟩, iv) :: l) t = false := by intro t; unfold takenH; simp [manyH]
  refine ⟨fun a => by rw [h1 a]; simp [putsH, fromH, manyH], fun a => by rw [h0 a]; rfl, fun t => ?_, fun t => ?_⟩
  · have hlt : ¬ ((t : Int) < 0) := by omega
    unfold itemH
    rw [e9]
    simp only [Bool.false_eq_true]
    have ef : (fromH ((⟨2, N, 0, its⟩, iv) :: l)).1.items = its := by simp [fromH]
    by_cases h : t < its.length
    · simp [ef, h, hlt, List.getD_eq_getElem?_getD]
    · have hl : laidH (t : Int) ((⟨2, N, 0, its⟩, iv) :: l) = none := by simp [laidH]
      simp [ef, h, hl, List.getD_eq_getElem?_getD]
  · rw [e9]
    by_cases h : t < its.length
    · simp [List.getD_eq_getElem?_getD, h]
    · simp [List.getD_eq_getElem?_getD, List.getElem?_eq_none (by simpa using h : (its.map fun a => ((1 : Int), a)).length ≤ t)]

theorem pvals_full (its : List Int) : pvals (its.map fun a => ((1 : Int), a)) = its := by
  induction its with
  | nil => rfl
  | cons a r ih => simp only [List.map_cons, pvals] at *; simp [ih]

theorem itemsH_leaf (c : Conf) (hk : c.kind = 1) (its : List Int) (iv : Value) (l : Hist) : itemsH ((⟨2, its.length, 0, its⟩, iv) :: l) = its := by
  rw [(leaf_items c its.length its iv l (fun _ => rfl) (fun a => by omega)).vals (Or.inr hk), pvals_full]

theorem evT_len (X : List Int) : ∀ k, k ≤ X.length → (evT X k).length = (k + 1) / 2 ∧ (odT X k).length = k / 2
  | 0, _ => by simp [evT, odT]
  | k + 1, h => by
    obtain ⟨a, b⟩ := evT_len X k (by omega)
    by_cases hk : k % 2 = 0
    · obtain ⟨e1, e2⟩ := evT_even X k (by omega) hk
      rw [e1, e2]
      simp only [List.length_append, List.length_cons, List.length_nil]
      omega
    · obtain ⟨e1, e2⟩ := evT_odd X k (by omega) hk
      rw [e1, e2]
      simp only [List.length_append, List.length_cons, List.length_nil]
      omega

theorem altF_more : ∀ (f : Nat) (x y : List Int), x.length + y.length ≤ f → (x.length = y.length ∨ x.length = y.length + 1) → altF f x y = inTurn x y ∧ (altF f x y).length = x.length + y.length := by
  have main : ∀ (m f : Nat) (x y : List Int), y.length = m → x.length + y.length ≤ f → (x.length = y.length ∨ x.length = y.length + 1) → altF f x y = inTurn x y ∧ (altF f x y).length = x.length + y.length := by
    intro m
    induction m with
    | zero =>
      intro f x y hm hf hd
      have hy : y = [] := List.eq_nil_of_length_eq_zero hm
      subst hy
      match x, hd with
      | [], _ => cases f <;> simp [altF, inTurn, inTurnTo]
      | [a], _ =>
        match f, hf with
        | f + 1, _ => cases f <;> simp [altF, inTurn, inTurnTo]
      | a :: b :: x, hd => simp at hd
    | succ m ih =>
      intro f x y hm hf hd
      match x, y, f with
      | [], _, _ => simp at hd; omega
      | _ :: _, [], _ => simp at hm
      | a :: x, b :: y, 0 => simp at hf
      | a :: x, b :: y, 1 => simp at hf; omega
      | a :: x, b :: y, f + 2 =>
        simp only [List.length_cons] at hm hf hd
        obtain ⟨e1, e2⟩ := ih f x y (by omega) (by omega) (by omega)
        have e3 : inTurn (a :: x) (b :: y) = a :: b :: inTurn x y := by
          unfold inTurn inTurnTo
          have : max (a :: x).length (b :: y).length = max x.length y.length + 1 := by simp only [List.length_cons]; omega
          rw [this, List.range_succ_eq_map]
          simp [List.flatMap_cons, List.flatMap_map]
        simp only [altF, List.length_cons]
        rw [e3, e1]
        refine ⟨rfl, ?_⟩
        rw [← e1, e2]
        omega
  intro f x y hf hd
  exact main y.length f x y rfl hf hd

theorem hist_three (L : Lay) (a b d : Nat) (x1 x2 x3 : Value) (e1 e2 e3 : Ev) (i1 i2 i3 : Value) (ha : a < L.past.length) (hb : b < L.past.length) (hd : d < L.past.length) (hab : a ≠ b) (had : a ≠ d) (hbd : b ≠ d) (u : Nat) :
    (((L.hap a x1 e1 i1).hap b x2 e2 i2).hap d x3 e3 i3).hist u = if u = a then (e1, i1) :: L.hist a else if u = b then (e2, i2) :: L.hist b else if u = d then (e3, i3) :: L.hist d else L.hist u := by
  have hb' : b < (L.hap a x1 e1 i1).past.length := by simpa using hb
  have hd' : d < ((L.hap a x1 e1 i1).hap b x2 e2 i2).past.length := by simpa using hd
  rw [hist_hap _ d u x3 e3 i3 hd']
  by_cases ed : u = d
  · subst ed
    rw [if_pos rfl, if_neg (Ne.symm had), if_neg (Ne.symm hbd), if_pos rfl, hist_hap _ b u x2 e2 i2 hb', if_neg (Ne.symm hbd), hist_hap _ a u x1 e1 i1 ha, if_neg (Ne.symm had)]
  · rw [if_neg ed, if_neg ed, hist_hap _ b u x2 e2 i2 hb']
    by_cases eb : u = b
    · subst eb
      rw [if_pos rfl, if_neg (Ne.symm hab), if_pos rfl, hist_hap _ a u x1 e1 i1 ha, if_neg (Ne.symm hab)]
    · rw [if_neg eb, if_neg eb, hist_hap _ a u x1 e1 i1 ha]

theorem totL_hap1 (L : Lay) (v : Nat) (hv : v < L.past.length) (x : Value) (ev : Ev) (iv : Value) : totL (L.hap v x ev iv).past = totL L.past + 1 := by
  have := totL_set L.past v hv (x, (ev, iv) :: L.hist v)
  have e : L.hist v = (L.past[v]).2 := by simp [Lay.hist, hv]
  show totL (L.past.set v (x, (ev, iv) :: L.hist v)) = _
  rw [e] at this ⊢
  simp only [List.length_cons] at this
  omega

theorem getD_three (l : List PN) (v : Nat) (n0 n1 n2 : PN) (h1 : 1 ≤ v) (hl : 2 * v + 1 < l.length) (u : Nat) : ((((l.set v n0).set (2 * v) n1).set (2 * v + 1) n2)).getD u zeroPN = if u = v then n0 else if u = 2 * v then n1 else if u = 2 * v + 1 then n2 else l.getD u zeroPN := by
  simp only [List.getD_eq_getElem?_getD]
  by_cases a : u = 2 * v + 1
  · subst a
    rw [if_neg (by omega), if_neg (by omega), if_pos rfl, List.getElem?_set_self (by simpa using hl)]
    rfl
  · rw [List.getElem?_set_ne (Ne.symm a)]
    by_cases b : u = 2 * v
    · subst b
      rw [if_neg (by omega), if_pos rfl, List.getElem?_set_self (by simp; omega)]
      rfl
    · rw [List.getElem?_set_ne (Ne.symm b)]
      by_cases d : u = v
      · subst d
        rw [if_pos rfl, List.getElem?_set_self (by omega)]
        rfl
      · rw [List.getElem?_set_ne (Ne.symm d), if_neg d, if_neg b, if_neg a]

section
variable {c : Conf} {L : Lay} {P : PLay} {i v : Nat} {p : Pr} {n : PN}

/-- What is known when a target is changed. -/
structure Target (c : Conf) (L : Lay) (P : PLay) (i v : Nat) (p : Pr) (n : PN) : Prop where
  kid : 2 * v + 1 < L.past.length
  v16 : v < 16
  on : p.onode = (v : Int)
  k3 : p.kind = 3 ∨ p.kind = 4
  form : formH (L.hist v) = if p.kind = 3 then 1 else 2
  q : Quiet L.procs i v
  puts : ∀ u, u < L.past.length → formH (L.hist u) = 2 → 0 ≤ putsH (L.hist u) ∧ putsH (L.hist u) ≤ 256
  st : ∀ u, (u = v ∨ u = 2 * v ∨ u = 2 * v + 1) → sumP (stP u) L.procs = 0
  even : sumP (eP L.procs v) L.procs = 0
  wait : ∀ (vl : Int) (k : Nat) (pb : Nat), ∀ j, (hj : j < (L.procs.set i (pb, upPr { p with val := vl })).length) → waitP v k ((L.procs.set i (pb, upPr { p with val := vl }))[j]).2 = false
  ins : ∀ (vl : Int) (pb : Nat), insideL v (L.procs.set i (pb, upPr { p with val := vl })) = insideL v L.procs ∧ insideL (2 * v) (L.procs.set i (pb, upPr { p with val := vl })) = 0 ∧ insideL (2 * v + 1) (L.procs.set i (pb, upPr { p with val := vl })) = 0

theorem insideL_none (u : Nat) : ∀ ps : Prs, (∀ j, (hj : j < ps.length) → holdsP u (ps[j]).2 = false) → insideL u ps = 0
  | [], _ => rfl
  | y :: r, h => by
    have h0 := h 0 (by simp)
    simp only [List.getElem_cons_zero] at h0
    have := insideL_none u r fun j hj => by have := h (j + 1) (by simpa using hj); simpa using this
    simp [insideL, h0, this]

theorem Here.target17 (h : Here c L P i v p n) (k : CK c L P) (hph : p.phase = 17) : Target c L P i v p n := by
  have hep := h.ep
  have ci := k.ci
  have hl := h.rel.lenle
  have h1v := h.v1
  have hv32 := h.v32
  obtain ⟨u, e1, e2, e3, e4⟩ := ci.gnode h.rel.len h.hi (by rw [hep]; omega) (by rw [hep]; omega)
  rw [hep] at e1 e2
  have eu : u = v := by have := h.at'; omega
  subst eu
  have hcq := h.cq ci
  have hk3 : p.kind = 3 ∨ p.kind = 4 := by
    have := hcq.kinds
    by_cases e : p.kind < 3
    · exact absurd ⟨by omega, by omega⟩ (hcq.walk e)
    · omega
  have hf := hcq.gform (by omega) (by omega)
  rw [h.toNat] at hf
  have Q := h.quiet k hph
  have hlive : ∀ j, (hj : j < L.procs.length) → (L.procs[j]).2.phase ≠ 20 → ∃ x : Nat, (L.procs[j]).2.node = (x : Int) ∧ x < 32 ∧ x ≠ 2 * u ∧ x ≠ 2 * u + 1 := by
    intro j hj h20
    obtain ⟨x, e, _, b, _⟩ := (h.rel.qs j hj).live h20
    obtain ⟨z0, z1⟩ := Q.kid j hj h20
    exact ⟨x, e, by omega, by omega, by omega⟩
  have hup := fun vl => up_phase { p with val := vl }
  have hat : ∀ vl, atP (upPr { p with val := vl }) = atP p := by
    intro vl
    rw [up_at (p := { p with val := vl }) h.at']
    unfold atP
    rw [if_pos (by omega), h.toNat]
  have hin : ∀ vl w, 1 ≤ w → holdsP w (upPr { p with val := vl }) = holdsP w p := fun vl w hw => by rw [holds_eq (up_done _) w hw, holds_eq (fun e => absurd e h.live) w hw, hat]
  have hnokid : ∀ (b : Nat), (b = 2 * u ∨ b = 2 * u + 1) → ∀ j, (hj : j < L.procs.length) → holdsP b (L.procs[j]).2 = false := by
    intro b hb j hj
    cases hh : holdsP b (L.procs[j]).2 with
    | false => rfl
    | true =>
      exfalso
      have h20 : (L.procs[j]).2.phase ≠ 20 := by intro e; simp [holdsP, e] at hh
      obtain ⟨x, ex, hx, _, _⟩ := hlive j hj h20
      have h64 : atP (L.procs[j]).2 < 64 := by unfold atP; rw [ex, Int.toNat_natCast]; split <;> omega
      rw [holds_eq (fun e => absurd e h20) b (by omega)] at hh
      simp only [decide_eq_true_eq] at hh
      have cu := climb_up2 ⟨atP (L.procs[j]).2, h64⟩ ⟨u, by omega⟩ h1v
      simp only at cu
      have hc : climb 6 (atP (L.procs[j]).2) u = u ∧ atP (L.procs[j]).2 ≠ u := by
        rcases hb with rfl | rfl
        · exact cu.1 hh
        · exact cu.2 hh
      have hho : holdsP u (L.procs[j]).2 = true := by rw [holds_eq (fun e => absurd e h20) u h1v]; simp [hc.1]
      obtain ⟨a1, a2⟩ := Q.hold j hj hho
      apply hc.2
      unfold atP
      rw [if_neg (by omega), a1, Int.toNat_natCast]
  have hN9 : ∀ w, w < L.past.length → 0 ≤ putN (L.hist w) := by
    intro w hw
    have := (h.rel.fn w hw).1
    unfold putN putsH
    split <;> omega
  refine ⟨e4, by omega, e2, hk3, hf, Q, fun w hw hf2 => ?_, fun w hw => ?_, ?_, fun vl kk pb j hj' => ?_, fun vl pb => ⟨?_, ?_, ?_⟩⟩
  · have s1 := sumN_ge (fun w => putN (L.hist w)) w L.past.length hw hN9
    have s2 := ci.sum
    have s3 := sumP_le tickP L.procs fun j hj => by unfold tickP; split <;> omega
    have s4 := h.rel.np
    have s5 := hN9 w hw
    have e : putN (L.hist w) = putsH (L.hist w) := by unfold putN; rw [if_pos hf2]
    omega
  · refine sumP_zero _ _ fun j hj => ?_
    by_cases e : (L.procs[j]).2.phase = 13 ∨ (L.procs[j]).2.phase = 14
    · obtain ⟨x, ex, _, x0, x1⟩ := hlive j hj (by omega)
      have xv : x ≠ u := by
        intro e'
        have hji : j ≠ i := by intro e''; subst e''; rw [hep] at e; omega
        have := Q.at' j hj hji (by omega) (by rw [ex, e'])
        omega
      unfold stP
      rw [if_neg (by rw [ex]; omega)]
    · exact stP_no (by omega) (by omega) w
  · exact Q.even hv32 h1v (fun j hj h20 => by obtain ⟨x, ex, hx, _⟩ := hlive j hj h20; exact ⟨x, ex, hx⟩) (fun hi' => by rw [hep]; omega)
  · have hj : j < L.procs.length := by simpa using hj'
    by_cases e : j = i
    · subst e
      simp only [List.getElem_set_self]
      have := hup vl
      exact nowait (by omega) (by omega) _ _
    · simp only [List.getElem_set_ne (Ne.symm e)]
      cases hw : waitP u kk (L.procs[j]).2 with
      | false => rfl
      | true =>
        exfalso
        simp [waitP] at hw
        have := Q.at' j hj e (by omega) hw.1.1
        omega
  · have := insideL_set u L.procs i h.hi (pb, upPr { p with val := vl })
    have e : holdsP u ((pb, upPr { p with val := vl }) : Nat × Pr).2 = holdsP u p := hin vl u h1v
    rw [hep, e] at this
    omega
  · refine insideL_none _ _ fun j hj' => ?_
    have hj : j < L.procs.length := by simpa using hj'
    by_cases e : j = i
    · subst e
      simp only [List.getElem_set_self]
      rw [hin vl _ (by omega), ← hep]
      exact hnokid _ (Or.inl rfl) j hj
    · simp only [List.getElem_set_ne (Ne.symm e)]
      exact hnokid _ (Or.inl rfl) j hj
  · refine insideL_none _ _ fun j hj' => ?_
    have hj : j < L.procs.length := by simpa using hj'
    by_cases e : j = i
    · subst e
      simp only [List.getElem_set_self]
      rw [hin vl _ (by omega), ← hep]
      exact hnokid _ (Or.inr rfl) j hj
    · simp only [List.getElem_set_ne (Ne.symm e)]
      exact hnokid _ (Or.inr rfl) j hj

theorem Here.bal_pool (h : Here c L P i v p n) (k : CK c L P) (t : Target c L P i v p n) (hk : c.kind = 1) (u : Nat) (hu : u = v ∨ u = 2 * v ∨ u = 2 * v + 1) (hf : formH (L.hist u) = 2) : ((itemsH (L.hist u)).length : Int) = balH (L.hist u) := by
  have hkid := t.kid
  have h1 := h.v1
  have := k.ci.lies hk u (by omega) (by omega) hf
  rw [t.st u hu] at this
  omega
theorem Here.bal_count (h : Here c L P i v p n) (k : CK c L P) (t : Target c L P i v p n) (hk : c.kind = 0) (u : Nat) (hu : u = v ∨ u = 2 * v ∨ u = 2 * v + 1) (hf : formH (L.hist u) = 2) : putsH (L.hist u) = balH (L.hist u) := by
  have hkid := t.kid
  have := k.ci.nog hk u (by have := h.v1; omega)
  unfold balH
  rw [if_pos hf, this]
  simp

theorem Here.cunfold (h : Here c L P i v p n) (k : CK c L P) (hph : p.phase = 17) (hk4 : p.kind = 4) (vl : Int) (x1 x2 x3 i1 i2 x y : Value) :
    CRel c ((L.unfolded v x1 x2 x3 i1 i2).setP i (upPr { p with val := vl })) { P with nodes := (((P.nodes.set v (unfV P v (unf0 P v x) (unf1 P v y))).set (2 * v) (unf0 P v x)).set (2 * v + 1) (unf1 P v y)), procs := P.procs.set i (toPP (upPr { p with val := vl })) } := by
  have t := h.target17 k hph
  have ci := k.ci
  have h1v := h.v1
  have hkid := t.kid
  have hl := h.rel.lenle
  have hc := h.rel.confs
  have hf : formH (L.hist v) = 2 := by rw [t.form, if_neg (by omega)]
  obtain ⟨a1, a2, a3, a4⟩ := h.nr.leaf hf
  have hpu := t.puts v h.vN hf
  have hno : ∀ w, w / 2 = v → 2 ≤ w → w < L.past.length → formH (L.hist w) = 3 := by
    intro w hw h2 hwN
    by_cases f : formH (L.hist w) = 3
    · exact f
    · have := ci.par w h2 hwN f
      rw [hw] at this
      omega
  have f0 := hno (2 * v) (by omega) (by omega) (by omega)
  have f1 := hno (2 * v + 1) (by omega) (by omega) hkid
  have b0 : balH (L.hist (2 * v)) = 0 ∧ putN (L.hist (2 * v)) = 0 := by unfold balH putN; rw [f0]; simp
  have b1 : balH (L.hist (2 * v + 1)) = 0 ∧ putN (L.hist (2 * v + 1)) = 0 := by unfold balH putN; rw [f1]; simp
  have hb : balH (L.hist v) = putsH (L.hist v) - manyH 7 (-1) (L.hist v) := by unfold balH; rw [if_pos hf]
  have hits : itemsH (L.hist v) = pvals n.items := a4.vals hc.1
  have hN : unfN L v = balH (L.hist v) := by
    unfold unfN
    rw [h.rel.cL]
    rcases hc.1 with e | e
    · rw [if_pos e]; exact h.bal_count k t e v (Or.inl rfl) hf
    · rw [if_neg (by omega)]; exact h.bal_pool k t e v (Or.inl rfl) hf
  have hNlen : c.kind = 1 → unfN L v = ((itemsH (L.hist v)).length : Int) := by
    intro e
    unfold unfN
    rw [h.rel.cL, if_neg (by omega)]
  have hN0 : 0 ≤ unfN L v := by
    rcases hc.1 with e | e
    · unfold unfN; rw [h.rel.cL, if_pos e]; omega
    · rw [hNlen e]; omega
  have hN9 : unfN L v ≤ putsH (L.hist v) := by rw [hN, hb]; omega
  have hnil : c.kind = 0 → itemsH (L.hist v) = [] := fun e => by rw [hits, a4.emp e]; rfl
  have hlen0 : c.kind = 1 → (unfN L v + 1) / 2 = ((evT (itemsH (L.hist v)) (itemsH (L.hist v)).length).length : Int) := fun e => by
    have := (evT_len (itemsH (L.hist v)) _ (Nat.le_refl _)).1
    rw [hNlen e]; omega
  have hlen1 : c.kind = 1 → unfN L v / 2 = ((odT (itemsH (L.hist v)) (itemsH (L.hist v)).length).length : Int) := fun e => by
    have := (evT_len (itemsH (L.hist v)) _ (Nat.le_refl _)).2
    rw [hNlen e]; omega
  -- the program's nodes
  have hen : P.nodes.getD v zeroPN = n := h.en
  have hu0 : (unf0 P v x).there = true ∧ (unf0 P v x).inner = false ∧ (unf0 P v x).shut = false ∧ (unf0 P v x).inside = 0 ∧ (unf0 P v x).gets = 0 ∧ (unf0 P v x).puts = (unfN L v + 1) / 2 ∧ (unf0 P v x).items = (evT (itemsH (L.hist v)) (itemsH (L.hist v)).length).map fun a => (1, a) := by
    unfold unf0
    rw [h.rel.cP, hen]
    rcases hc.1 with e | e
    · rw [if_pos e]
      refine ⟨rfl, rfl, rfl, rfl, rfl, ?_, ?_⟩
      · show n.puts - n.puts / 2 = _
        have : unfN L v = putsH (L.hist v) := by unfold unfN; rw [h.rel.cL, if_pos e]
        rw [this, a2]; omega
      · rw [hnil e]; rfl
    · rw [if_neg (by omega), ← hits]
      exact ⟨rfl, rfl, rfl, rfl, rfl, (hlen0 e).symm, rfl⟩
  have hu1 : (unf1 P v y).there = true ∧ (unf1 P v y).inner = false ∧ (unf1 P v y).shut = false ∧ (unf1 P v y).inside = 0 ∧ (unf1 P v y).gets = 0 ∧ (unf1 P v y).puts = unfN L v / 2 ∧ (unf1 P v y).items = (odT (itemsH (L.hist v)) (itemsH (L.hist v)).length).map fun a => (1, a) := by
    unfold unf1
    rw [h.rel.cP, hen]
    rcases hc.1 with e | e
    · rw [if_pos e]
      refine ⟨rfl, rfl, rfl, rfl, rfl, ?_, ?_⟩
      · show n.puts / 2 = _
        have : unfN L v = putsH (L.hist v) := by unfold unfN; rw [h.rel.cL, if_pos e]
        rw [this, a2]
      · rw [hnil e]; rfl
    · rw [if_neg (by omega), ← hits]
      exact ⟨rfl, rfl, rfl, rfl, rfl, (hlen1 e).symm, rfl⟩
  have htv : (unfV P v (unf0 P v x) (unf1 P v y)).toggle = unfN L v % 2 := by
    show ((unf0 P v x).puts + (unf1 P v y).puts) % 2 = _
    rw [hu0.2.2.2.2.2.1, hu1.2.2.2.2.2.1]
    congr 1
    omega
  have hiv : (unfV P v (unf0 P v x) (unf1 P v y)).inside = n.inside := by show (P.nodes.getD v zeroPN).inside = _; rw [hen]
  have hevn := evT_le (itemsH (L.hist v)) (itemsH (L.hist v)).length
  have hil : (itemsH (L.hist v)).length ≤ 256 := by
    rcases hc.1 with e | e
    · rw [hnil e]; simp
    · have := hNlen e; omega
  have hm0 : (unfV P v (unf0 P v x) (unf1 P v y)).there = true ∧ (unfV P v (unf0 P v x) (unf1 P v y)).inner = true ∧ (unfV P v (unf0 P v x) (unf1 P v y)).shut = false ∧ (unfV P v (unf0 P v x) (unf1 P v y)).width = 1 ∧ (∀ j, (unfV P v (unf0 P v x) (unf1 P v y)).slot j = zeroSL) ∧ (unfV P v (unf0 P v x) (unf1 P v y)).items = [] := ⟨rfl, rfl, rfl, rfl, fun j => by rcases j with _ | _ | _ | j <;> rfl, rfl⟩
  generalize unfV P v (unf0 P v x) (unf1 P v y) = m0 at *
  generalize unf0 P v x = m1 at *
  generalize unf1 P v y = m2 at *
  obtain ⟨pb, hpb⟩ : ∃ pb, ((L.unfolded v x1 x2 x3 i1 i2).setP i (upPr { p with val := vl })).procs = L.procs.set i (pb, upPr { p with val := vl }) := ⟨_, rfl⟩
  obtain ⟨in0, in1, in2⟩ := t.ins vl pb
  have hev : unfN L v % 2 = 0 ∨ unfN L v % 2 = 1 := by omega
  refine h.made k hph vl (l0 := (⟨1, unfN L v % 2, 0, []⟩, .slice none 0 0) :: L.hist v) (l1 := (⟨2, (unfN L v + 1) / 2, 0, evT (itemsH (L.hist v)) (itemsH (L.hist v)).length⟩, i1) :: L.hist (2 * v)) (l2 := (⟨2, unfN L v / 2, 0, odT (itemsH (L.hist v)) (itemsH (L.hist v)).length⟩, i2) :: L.hist (2 * v + 1)) (n0 := m0) (n1 := m1) (n2 := m2)
    ⟨rfl, ⟨pb, hpb⟩, by simp, fun u => ?_, ?_, rfl, by simpa using h.rel.plen, fun u => getD_three P.nodes v m0 m1 m2 h1v (by rw [h.rel.plen]; omega) u, rfl⟩ ⟨Or.inl ⟨by simp [formH], by simp [formH], by simp [formH], hf⟩, ?_, ?_, ?_, hm0.2.2.1, hu0.2.2.1, hu1.2.2.1, ?_, ?_, ?_, ?_, ?_, ?_, ?_, fun _ => ?_, fun e => ⟨fun a => by simp [formH] at a, fun _ => ?_, fun _ => ?_⟩, ?_, fun _ => by simp [manyH]⟩
  · have := hist_three L v (2 * v) (2 * v + 1) x1 x2 x3 ⟨1, unfN L v % 2, 0, []⟩ ⟨2, (unfN L v + 1) / 2, 0, evT (itemsH (L.hist v)) (itemsH (L.hist v)).length⟩ ⟨2, unfN L v / 2, 0, odT (itemsH (L.hist v)) (itemsH (L.hist v)).length⟩ (.slice none 0 0) i1 i2 h.vN (by omega) hkid (by omega) (by omega) (by omega) u
    exact this
  · have e1 := totL_hap1 L v h.vN x1 ⟨1, unfN L v % 2, 0, []⟩ (.slice none 0 0)
    have e2 := totL_hap1 (L.hap v x1 ⟨1, unfN L v % 2, 0, []⟩ (.slice none 0 0)) (2 * v) (by simp; omega) x2 ⟨2, (unfN L v + 1) / 2, 0, evT (itemsH (L.hist v)) (itemsH (L.hist v)).length⟩ i1
    have e3 := totL_hap1 ((L.hap v x1 ⟨1, unfN L v % 2, 0, []⟩ (.slice none 0 0)).hap (2 * v) x2 ⟨2, (unfN L v + 1) / 2, 0, evT (itemsH (L.hist v)) (itemsH (L.hist v)).length⟩ i1) (2 * v + 1) (by simp; omega) x3 ⟨2, unfN L v / 2, 0, odT (itemsH (L.hist v)) (itemsH (L.hist v)).length⟩ i2
    have g2 : (L.hap v x1 ⟨1, unfN L v % 2, 0, []⟩ (.slice none 0 0)).hist (2 * v) = L.hist (2 * v) := by rw [hist_hap L v _ _ _ _ h.vN, if_neg (by omega)]
    have g3 : ((L.hap v x1 ⟨1, unfN L v % 2, 0, []⟩ (.slice none 0 0)).hap (2 * v) x2 ⟨2, (unfN L v + 1) / 2, 0, evT (itemsH (L.hist v)) (itemsH (L.hist v)).length⟩ i1).hist (2 * v + 1) = L.hist (2 * v + 1) := by rw [hist_hap _ (2 * v) _ _ _ _ (by simp; omega), if_neg (by omega), hist_hap L v _ _ _ _ h.vN, if_neg (by omega)]
    show totL (((L.hap v x1 ⟨1, unfN L v % 2, 0, []⟩ (.slice none 0 0)).hap (2 * v) x2 ⟨2, (unfN L v + 1) / 2, 0, evT (itemsH (L.hist v)) (itemsH (L.hist v)).length⟩ i1).hap (2 * v + 1) x3 ⟨2, unfN L v / 2, 0, odT (itemsH (L.hist v)) (itemsH (L.hist v)).length⟩ i2).past ≤ _
    omega
  · rw [hpb]
    refine ⟨Or.inl (by simp [formH]), by rw [hm0.1]; simp [formH], fun _ => by rw [in0, hiv]; exact h.nr.inside h.f3, fun _ => ⟨hm0.2.1, ?_, ?_, by rw [hm0.2.2.2.1]; omega, by rw [hm0.2.2.2.1]; omega, fun j hj => Or.inl ⟨by rw [hm0.2.2.2.2.1]; rfl, t.wait vl j pb⟩⟩, fun a => by simp [formH] at a⟩
    · rw [htv]; simp [togH, fromH, manyH]
    · rw [hm0.2.2.2.1]; simp [widthH]
  · rw [hpb]
    refine ⟨Or.inr (Or.inl (by simp [formH])), by rw [hu0.1]; simp [formH], fun _ => by rw [in1, hu0.2.2.2.1]; rfl, fun a => by simp [formH] at a, fun _ => ⟨hu0.2.1, ?_, ?_, ?_⟩⟩
    · rw [hu0.2.2.2.2.2.1]; simp [putsH, fromH, manyH]
    · rw [hu0.2.2.2.2.1]; simp [manyH]
    · rw [hu0.2.2.2.2.2.2]
      exact leaf_items c _ _ _ _ hlen0 (fun e => by rw [hnil e]; rfl)
  · rw [hpb]
    refine ⟨Or.inr (Or.inl (by simp [formH])), by rw [hu1.1]; simp [formH], fun _ => by rw [in2, hu1.2.2.2.1]; rfl, fun a => by simp [formH] at a, fun _ => ⟨hu1.2.1, ?_, ?_, ?_⟩⟩
    · rw [hu1.2.2.2.2.2.1]; simp [putsH, fromH, manyH]
    · rw [hu1.2.2.2.2.1]; simp [manyH]
    · rw [hu1.2.2.2.2.2.2]
      exact leaf_items c _ _ _ _ hlen1 (fun e => by rw [hnil e]; rfl)
  · simp only [fromH]; simp; omega
  · simp only [fromH]; simp; omega
  · simp only [fromH]; simp; omega
  · rw [hm0.2.2.2.2.2]; simp
  · rw [hu0.2.2.2.2.2.2]; simp; omega
  · rw [hu1.2.2.2.2.2.2]; simp; omega
  · rw [b0.1, b1.1, ← hN]
    simp [balH, formH, putsH, fromH, manyH]
    omega
  · simp [balH, togH, formH, putsH, fromH, manyH]
    omega
  · rw [hlen0 e, itemsH_leaf c e]; simp [balH, formH, putsH, fromH, manyH]
  · rw [hlen1 e, itemsH_leaf c e]; simp [balH, formH, putsH, fromH, manyH]
  · rw [b0.2, b1.2]
    have : putN (L.hist v) = putsH (L.hist v) := by unfold putN; rw [if_pos hf]
    rw [this]
    simp [putN, formH, putsH, fromH, manyH] at hN9 ⊢
    omega

theorem Here.cfold (h : Here c L P i v p n) (k : CK c L P) (hph : p.phase = 17) (hk3 : p.kind = 3) (hi0 : formH (L.hist (2 * v)) ≠ 1) (hi1 : formH (L.hist (2 * v + 1)) ≠ 1) (vl : Int) (x1 x2 x3 iv z : Value) :
    CRel c ((L.folded v x1 x2 x3 iv).setP i (upPr { p with val := vl })) { P with nodes := (((P.nodes.set v (foldPN P v z)).set (2 * v) zeroPN).set (2 * v + 1) zeroPN), procs := P.procs.set i (toPP (upPr { p with val := vl })) } := by
  have t := h.target17 k hph
  have ci := k.ci
  have h1v := h.v1
  have hkid := t.kid
  have hv16 := t.v16
  have hl := h.rel.lenle
  have hc := h.rel.confs
  have hf : formH (L.hist v) = 1 := by rw [t.form, if_pos hk3]
  obtain ⟨kk1, kk2, kk3⟩ := h.rel.kids v h1v h.vN hf
  have r0 := h.rel.nodes (2 * v) (by omega) (by omega)
  have r1 := h.rel.nodes (2 * v + 1) (by omega) hkid
  have f0 : formH (L.hist (2 * v)) = 2 := by have := r0.form; omega
  have f1 : formH (L.hist (2 * v + 1)) = 2 := by have := r1.form; omega
  obtain ⟨a1, a2, a3, a4⟩ := r0.leaf f0
  obtain ⟨d1, d2, d3, d4⟩ := r1.leaf f1
  have hp0 := t.puts (2 * v) (by omega) f0
  have hp1 := t.puts (2 * v + 1) hkid f1
  have bv : balH (L.hist v) = 0 ∧ putN (L.hist v) = 0 := by unfold balH putN; rw [hf]; simp
  have b0 : balH (L.hist (2 * v)) = putsH (L.hist (2 * v)) - manyH 7 (-1) (L.hist (2 * v)) := by unfold balH; rw [if_pos f0]
  have b1 : balH (L.hist (2 * v + 1)) = putsH (L.hist (2 * v + 1)) - manyH 7 (-1) (L.hist (2 * v + 1)) := by unfold balH; rw [if_pos f1]
  have g0 : putN (L.hist (2 * v)) = putsH (L.hist (2 * v)) := by unfold putN; rw [if_pos f0]
  have g1 : putN (L.hist (2 * v + 1)) = putsH (L.hist (2 * v + 1)) := by unfold putN; rw [if_pos f1]
  have hX : itemsH (L.hist (2 * v)) = pvals (P.nodes.getD (2 * v) zeroPN).items := a4.vals hc.1
  have hY : itemsH (L.hist (2 * v + 1)) = pvals (P.nodes.getD (2 * v + 1) zeroPN).items := d4.vals hc.1
  have htog : balH (L.hist (2 * v)) - balH (L.hist (2 * v + 1)) = togH (L.hist v) := by
    have e := ci.even v h1v h.vN hf
    rw [even_quiet hkid (by omega) h1v ?_ t.even] at e
    · omega
    · intro w hw w0 w1 hs
      exact leaf_below (by omega) h.v32 h1v ci.par (fun x => x = 2 * v ∨ x = 2 * v + 1) (Or.inr (fun x hx => by omega)) (fun x hx => by rcases hx with e | e <;> rw [e] <;> omega) w hw hs (by omega)
  have ht01 : togH (L.hist v) = 0 ∨ togH (L.hist v) = 1 := by unfold togH; omega
  have hpool : c.kind = 1 → ((itemsH (L.hist (2 * v))).length : Int) = balH (L.hist (2 * v)) ∧ ((itemsH (L.hist (2 * v + 1))).length : Int) = balH (L.hist (2 * v + 1)) := fun e => ⟨h.bal_pool k t e _ (Or.inr (Or.inl rfl)) f0, h.bal_pool k t e _ (Or.inr (Or.inr rfl)) f1⟩
  have hcnt : c.kind = 0 → putsH (L.hist (2 * v)) = balH (L.hist (2 * v)) ∧ putsH (L.hist (2 * v + 1)) = balH (L.hist (2 * v + 1)) := fun e => ⟨h.bal_count k t e _ (Or.inr (Or.inl rfl)) f0, h.bal_count k t e _ (Or.inr (Or.inr rfl)) f1⟩
  have hnil : c.kind = 0 → itemsH (L.hist (2 * v)) = [] ∧ itemsH (L.hist (2 * v + 1)) = [] := fun e => by rw [hX, hY, a4.emp e, d4.emp e]; exact ⟨rfl, rfl⟩
  have halt : alt (itemsH (L.hist (2 * v))) (itemsH (L.hist (2 * v + 1))) = inTurn (itemsH (L.hist (2 * v))) (itemsH (L.hist (2 * v + 1))) ∧ (alt (itemsH (L.hist (2 * v))) (itemsH (L.hist (2 * v + 1)))).length = (itemsH (L.hist (2 * v))).length + (itemsH (L.hist (2 * v + 1))).length := by
    unfold alt
    refine altF_more _ _ _ (Nat.le_refl _) ?_
    rcases hc.1 with e | e
    · rw [(hnil e).1, (hnil e).2]; exact Or.inl rfl
    · have := hpool e; omega
  have hN : foldN L v = balH (L.hist (2 * v)) + balH (L.hist (2 * v + 1)) := by
    unfold foldN
    rw [h.rel.cL]
    rcases hc.1 with e | e
    · rw [if_pos e]; have := hcnt e; omega
    · rw [if_neg (by omega), halt.2]; have := hpool e; omega
  have hN0 : 0 ≤ foldN L v := by
    unfold foldN
    split <;> omega
  have hN9 : foldN L v ≤ putsH (L.hist (2 * v)) + putsH (L.hist (2 * v + 1)) := by rw [hN, b0, b1]; omega
  have hlen : c.kind = 1 → foldN L v = ((alt (itemsH (L.hist (2 * v))) (itemsH (L.hist (2 * v + 1)))).length : Int) := fun e => by unfold foldN; rw [h.rel.cL, if_neg (by omega)]
  have hanil : c.kind = 0 → alt (itemsH (L.hist (2 * v))) (itemsH (L.hist (2 * v + 1))) = [] := fun e => by rw [(hnil e).1, (hnil e).2]; rfl
  have hal : (alt (itemsH (L.hist (2 * v))) (itemsH (L.hist (2 * v + 1)))).length ≤ 1000 := by
    rcases hc.1 with e | e
    · rw [hanil e]; simp
    · have := hlen e; omega
  have hen : P.nodes.getD v zeroPN = n := h.en
  have hm0 : (foldPN P v z).there = true ∧ (foldPN P v z).inner = false ∧ (foldPN P v z).shut = false ∧ (foldPN P v z).inside = n.inside ∧ (foldPN P v z).gets = 0 ∧ (foldPN P v z).puts = foldN L v ∧ (foldPN P v z).items = (alt (itemsH (L.hist (2 * v))) (itemsH (L.hist (2 * v + 1)))).map fun a => (1, a) := by
    unfold foldPN
    rw [h.rel.cP, hen]
    rcases hc.1 with e | e
    · rw [if_pos e]
      refine ⟨rfl, rfl, rfl, rfl, rfl, ?_, ?_⟩
      · show (P.nodes.getD (2 * v) zeroPN).puts + (P.nodes.getD (2 * v + 1) zeroPN).puts = _
        rw [a2, d2]
        unfold foldN
        rw [h.rel.cL, if_pos e]
      · rw [hanil e]; rfl
    · rw [if_neg (by omega), ← hX, ← hY, ← halt.1]
      exact ⟨rfl, rfl, rfl, rfl, rfl, (hlen e).symm, rfl⟩
  generalize foldPN P v z = m0 at *
  obtain ⟨pb, hpb⟩ : ∃ pb, ((L.folded v x1 x2 x3 iv).setP i (upPr { p with val := vl })).procs = L.procs.set i (pb, upPr { p with val := vl }) := ⟨_, rfl⟩
  obtain ⟨in0, in1, in2⟩ := t.ins vl pb
  refine h.made k hph vl (l0 := (⟨2, foldN L v, 0, alt (itemsH (L.hist (2 * v))) (itemsH (L.hist (2 * v + 1)))⟩, iv) :: L.hist v) (l1 := (⟨3, 0, 0, []⟩, .slice none 0 0) :: L.hist (2 * v)) (l2 := (⟨3, 0, 0, []⟩, .slice none 0 0) :: L.hist (2 * v + 1)) (n0 := m0) (n1 := zeroPN) (n2 := zeroPN)
    ⟨rfl, ⟨pb, hpb⟩, by simp, fun u => ?_, ?_, rfl, by simpa using h.rel.plen, fun u => getD_three P.nodes v m0 zeroPN zeroPN h1v (by rw [h.rel.plen]; omega) u, rfl⟩ ⟨Or.inr ⟨by simp [formH], by simp [formH], by simp [formH], hf, f0, f1⟩, ?_, ?_, ?_, hm0.2.2.1, rfl, rfl, ?_, by simp [fromH], by simp [fromH], ?_, by simp [zeroPN], by simp [zeroPN], ?_, fun a => by simp [formH] at a, fun e => ⟨fun _ => ?_, fun a => by simp [formH] at a, fun a => by simp [formH] at a⟩, ?_, fun _ => by simp [manyH]⟩
  · have := hist_three L (2 * v) (2 * v + 1) v x1 x2 x3 ⟨3, 0, 0, []⟩ ⟨3, 0, 0, []⟩ ⟨2, foldN L v, 0, alt (itemsH (L.hist (2 * v))) (itemsH (L.hist (2 * v + 1)))⟩ (.slice none 0 0) (.slice none 0 0) iv (by omega) hkid h.vN (by omega) (by omega) (by omega) u
    refine Eq.trans this ?_
    unfold three
    by_cases e0 : u = v
    · subst e0; rw [if_neg (by omega), if_neg (by omega), if_pos rfl, if_pos rfl]
    · rw [if_neg e0, if_neg e0]
  · have e1 := totL_hap1 L (2 * v) (by omega) x1 ⟨3, 0, 0, []⟩ (.slice none 0 0)
    have e2 := totL_hap1 (L.hap (2 * v) x1 ⟨3, 0, 0, []⟩ (.slice none 0 0)) (2 * v + 1) (by simp; omega) x2 ⟨3, 0, 0, []⟩ (.slice none 0 0)
    have e3 := totL_hap1 ((L.hap (2 * v) x1 ⟨3, 0, 0, []⟩ (.slice none 0 0)).hap (2 * v + 1) x2 ⟨3, 0, 0, []⟩ (.slice none 0 0)) v (by simp; omega) x3 ⟨2, foldN L v, 0, alt (itemsH (L.hist (2 * v))) (itemsH (L.hist (2 * v + 1)))⟩ iv
    show totL (((L.hap (2 * v) x1 ⟨3, 0, 0, []⟩ (.slice none 0 0)).hap (2 * v + 1) x2 ⟨3, 0, 0, []⟩ (.slice none 0 0)).hap v x3 ⟨2, foldN L v, 0, alt (itemsH (L.hist (2 * v))) (itemsH (L.hist (2 * v + 1)))⟩ iv).past ≤ _
    omega
  · rw [hpb]
    refine ⟨Or.inr (Or.inl (by simp [formH])), by rw [hm0.1]; simp [formH], fun _ => by rw [in0, hm0.2.2.2.1]; exact h.nr.inside h.f3, fun a => by simp [formH] at a, fun _ => ⟨hm0.2.1, ?_, ?_, ?_⟩⟩
    · rw [hm0.2.2.2.2.2.1]; simp [putsH, fromH, manyH]
    · rw [hm0.2.2.2.2.1]; simp [manyH]
    · rw [hm0.2.2.2.2.2.2]
      exact leaf_items c _ _ _ _ hlen hanil
  · exact ⟨Or.inr (Or.inr (by simp [formH])), by simp [formH, zeroPN], fun a => by simp [formH] at a, fun a => by simp [formH] at a, fun a => by simp [formH] at a⟩
  · exact ⟨Or.inr (Or.inr (by simp [formH])), by simp [formH, zeroPN], fun a => by simp [formH] at a, fun a => by simp [formH] at a, fun a => by simp [formH] at a⟩
  · simp only [fromH]; simp; omega
  · rw [hm0.2.2.2.2.2.2]; simp; omega
  · rw [bv.1, Int.zero_add, ← hN]
    simp [balH, formH, putsH, fromH, manyH]
  · rw [hlen e, itemsH_leaf c e]; simp [balH, formH, putsH, fromH, manyH]
  · rw [bv.2, g0, g1]
    simp [putN, formH, putsH, fromH, manyH] at hN9 ⊢
    omega
end

end Go.Proofs.YtjnmpejcegmkhaaGreatDoor
