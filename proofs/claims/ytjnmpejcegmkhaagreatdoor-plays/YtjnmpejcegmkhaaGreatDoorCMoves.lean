/- Both trees in the midst of things, with Folds and Unfolds: the relation, and how it goes on behind the moves of Inc, Put and Get. The relation of both trees, with Folds and Unfolds about, behind the moves of P6 and P7. The relation of both trees, with Folds and Unfolds about, behind Meet, Grow, Shrink, Toggle and the moves of P8. The relation of both trees, with Folds and Unfolds about, behind the moves of P8, at a leaf. No statement of the seat is proved here. -/
import Derived.Test.YtjnmpejcegmkhaaGreatDoorCPure
namespace Go.Proofs.YtjnmpejcegmkhaaGreatDoor
open Go.RowKit

structure CK (c : Conf) (L : Lay) (P : PLay) : Prop where
  si : SInv L P
  ci : CInv c L.procs L.hist L.past.length (fun _ => 0)

structure CRel (c : Conf) (L : Lay) (P : PLay) : Prop where
  rel : WRel c L P
  ck : CK c L P

theorem shutL_set (v : Int) : ∀ (ps : Prs) (i : Nat) (hi : i < ps.length) (x : Nat × Pr), shutP v x.2 = shutP v (ps[i]).2 → shutL v (ps.set i x) = shutL v ps
  | [], i, hi, _, _ => by simp at hi
  | y :: r, 0, _, x, h => by simp only [List.set_cons_zero, shutL, List.getElem_cons_zero] at *; rw [h]
  | y :: r, i + 1, hi, x, h => by
    simp only [List.set_cons_succ, shutL, List.getElem_cons_succ] at *
    rw [shutL_set v r i (by simpa using hi) x h]
theorem shutL_ex {v : Int} {ps : Prs} (h : shutL v ps = true) : ∃ j, ∃ hj : j < ps.length, shutP v (ps[j]).2 = true := by
  induction ps with
  | nil => simp [shutL] at h
  | cons y r ih =>
    simp only [shutL, Bool.or_eq_true] at h
    rcases h with h | h
    · exact ⟨0, by simp, by simpa using h⟩
    · obtain ⟨j, hj, e⟩ := ih h
      exact ⟨j + 1, by simpa using hj, by simpa using e⟩

theorem shutP_no {p : Pr} (h : ¬ (16 ≤ p.phase ∧ p.phase ≤ 18)) (u : Int) : shutP u p = false := by
  have a1 : ¬ p.phase = 16 := by omega
  have a2 : ¬ p.phase = 17 := by omega
  have a3 : ¬ p.phase = 18 := by omega
  simp [shutP, a1, a2, a3]
theorem shutP_else {p : Pr} {v u : Nat} (h : p.node = (v : Int)) (hne : u ≠ v) : shutP u p = false := by
  have : ¬ p.node = (u : Int) := by rw [h]; omega
  simp [shutP, this]
theorem shutP_yes {p : Pr} {v : Nat} (h : p.node = (v : Int)) (h1 : 16 ≤ p.phase) (h2 : p.phase ≤ 18) : shutP v p = true := by
  have : p.phase = 16 ∨ p.phase = 17 ∨ p.phase = 18 := by omega
  unfold shutP
  rw [h]
  simp
  omega

theorem getD_foc {P P' : PLay} {v : Nat} {n' : PN} (hl : P.nodes.length = 32) (hv : v < 32) (h : P'.nodes = P.nodes.set v n') (u : Nat) : P'.nodes.getD u zeroPN = if u = v then n' else P.nodes.getD u zeroPN := by
  rw [h]
  by_cases e : u = v
  · subst e
    rw [if_pos rfl]
    simp [List.getD_eq_getElem?_getD, hl, hv]
  · rw [if_neg e]
    simp [List.getD_eq_getElem?_getD, List.getElem?_set_ne (Ne.symm e)]

theorem holds_eq {p : Pr} (h : p.phase = 20 → p.node = 0) (u : Nat) (hu : 1 ≤ u) : holdsP u p = decide (climb 6 (atP p) u = u) := by
  unfold holdsP
  by_cases e : p.phase = 20
  · have : atP p = 0 := by unfold atP; rw [if_neg (by omega), h e]; rfl
    rw [this, climb_zero]
    have : ¬ (0 = u) := by omega
    simp [this]
  · simp [e]

section
variable {c : Conf} {L : Lay} {P : PLay} {i v : Nat} {p : Pr} {n : PN}

theorem Here.sinv (h : Here c L P i v p n) (s : SInv L P) {p' : Pr} {n' : PN} {l' : Hist} {L' : Lay} {P' : PLay} (hm : Moved c L P i v p' n' l' L' P') (hf : formH l' = formH (L.hist v)) (hs : ∀ u : Nat, u ≠ v → shutP u p' = shutP u p) (hn : n'.shut = shutL v L'.procs) : SInv L' P' := by
  obtain ⟨pb, hLp⟩ := hm.Lp
  refine ⟨fun u h1 hu hf3 => ?_⟩
  rw [hm.Ll] at hu
  rw [getD_foc h.rel.plen h.v32 hm.Pn u]
  rw [hm.Lh] at hf3
  by_cases e : u = v
  · subst e; rw [if_pos rfl]; exact hn
  · rw [if_neg e] at hf3 ⊢
    rw [s.shut u h1 hu hf3, hLp, shutL_set _ _ _ h.hi]
    rw [h.ep]
    exact hs u e

/-- How the place changes in which a process is counted. -/
def AtOk (v : Nat) (p p' : Pr) : Prop := (atP p' = atP p ∧ p.phase ≠ 2) ∨ (p.phase = 0 ∧ p'.phase = 1 ∧ p'.node = p.node) ∨ (atP p = v ∧ atP p' = v / 2)

theorem Here.atOk (h : Here c L P i v p n) {p' : Pr} (ha : AtOk v p p') (h20 : p'.phase = 20 → p'.node = 0) :
    (∀ u, 1 ≤ u → u < L.past.length → u ≠ v → holdsP u p' = holdsP u p) ∧ (holdsP v p' = true → (p'.phase = 1 ∧ p'.node = (v : Int)) ∨ (holdsP v p = true ∧ p.phase ≠ 2)) := by
  have hl := h.rel.lenle
  have hv := h.vN
  have htn := h.toNat
  have hp20 : p.phase = 20 → p.node = 0 := fun e => absurd e h.live
  have hst := fun u (hu1 : 1 ≤ u) (hu : u < 64) => climb_step ⟨v, by omega⟩ ⟨u, hu⟩ h.v1 hu1
  simp only at hst
  have hch := climb_half ⟨v, by omega⟩ h.v1
  simp only at hch
  rcases ha with ⟨ha, h2⟩ | ⟨a0, a1, an⟩ | ⟨a1, a2⟩
  · refine ⟨fun u h1 hu _ => by rw [holds_eq h20 u h1, holds_eq hp20 u h1, ha], fun ho => Or.inr ⟨?_, h2⟩⟩
    rw [holds_eq h20 v h.v1, ha] at ho
    rw [holds_eq hp20 v h.v1]
    exact ho
  · have e1 : atP p = v / 2 := by unfold atP; rw [if_pos (Or.inl a0), htn]
    have e2 : atP p' = v := by unfold atP; rw [if_neg (by omega), an, htn]
    refine ⟨fun u h1 hu hne => ?_, fun _ => Or.inl ⟨a1, by rw [an]; exact h.at'⟩⟩
    rw [holds_eq h20 u h1, holds_eq hp20 u h1, e1, e2, (hst u h1 (by omega)).1]
    simp [hne]
  · refine ⟨fun u h1 hu hne => ?_, fun ho => ?_⟩
    · rw [holds_eq h20 u h1, holds_eq hp20 u h1, a1, a2, (hst u h1 (by omega)).1]
      simp [hne]
    · rw [holds_eq h20 v h.v1, a2] at ho
      simp [hch] at ho

/-- What a move does to the tokens, the items and the tickets. -/
structure TokOk (c : Conf) (ps : Ps) (H : Nat → Hist) (N : Nat) (l' : Hist) (d d' : Nat → Int) (v : Nat) (p p' : Pr) : Prop where
  even : ∀ u, 1 ≤ u → u < N → formH (H u) = 1 → eP ps u p' - eP ps u p + side u v * (balH l' - balH (H v)) + d u = (if u = v then togH l' - togH (H v) else 0) + d' u
  lies : c.kind = 1 → formH (H v) = 2 → ((itemsH l').length : Int) + stP v p' - (itemsH (H v)).length - stP v p = balH l' - balH (H v)
  lies2 : ∀ u : Nat, u ≠ v → stP u p' = 0
  sum : putN l' - putN (H v) ≤ tickP p' - tickP p
  nog : c.kind = 0 → manyH 7 (-1) (H v) = 0 → manyH 7 (-1) l' = 0

/-- A move that has to do with no gate. -/
theorem Here.ord (h : Here c L P i v p n) (s : SInv L P) {d d' : Nat → Int} (ci : CInv c L.procs L.hist L.past.length d) {p' : Pr} {n' : PN} {l' : Hist} {L' : Lay} {P' : PLay} (hm : Moved c L P i v p' n' l' L' P')
    (hsn : n'.shut = n.shut) (hg : ¬ (16 ≤ p.phase ∧ p.phase ≤ 18)) (hg' : ¬ (16 ≤ p'.phase ∧ p'.phase ≤ 18)) (hf : formH l' = formH (L.hist v)) (hk : p'.kind = p.kind) (hcq : CQ c L.hist p') (ha : AtOk v p p') (h20 : p'.phase = 20 → p'.node = 0)
    (hlook : p.phase = 1 → shutL v L.procs = true → p'.node = (v : Int) ∧ p'.phase = 2) (ht : TokOk c L.procs L.hist L.past.length l' d d' v p p') :
    SInv L' P' ∧ CInv c L'.procs L'.hist L'.past.length d' := by
  obtain ⟨pb, hLp⟩ := hm.Lp
  have hep := h.ep
  obtain ⟨o1, o2⟩ := h.atOk ha h20
  have hl := h.rel.lenle
  refine ⟨h.sinv s hm hf (fun u _ => by rw [shutP_no hg, shutP_no hg']) ?_, ?_⟩
  · rw [hsn, hLp, shutL_set (v : Int) L.procs i h.hi (pb, p') (by show shutP v p' = _; rw [hep, shutP_no hg, shutP_no hg'])]
    have := s.shut v h.v1 h.vN h.f3
    rw [h.en] at this
    exact this
  · rw [hLp, hm.Ll]
    refine ci.move h.rel.len (by omega) h.hi (v := v) ?_
    rw [hep]
    have hHv : L'.hist v = l' := by rw [hm.Lh, if_pos rfl]
    refine ⟨h.at', h.v1, h.vN, fun u hne => by rw [hm.Lh, if_neg hne], by rw [hHv]; exact hf, hk, hcq, fun a b => absurd ⟨a, b⟩ hg', o1, fun a => absurd ⟨by omega, by omega⟩ hg', ?_, ?_, ?_, ht.lies2, ?_, by rw [hHv]; exact ht.nog⟩
    · rintro ⟨j, hj, _, hs⟩ hp1 ho
      rcases o2 ho with ⟨a1, a2⟩ | ⟨a1, a2⟩
      · exact ⟨a2, Or.inl a1⟩
      · have := hp1 a1
        obtain ⟨b1, b2⟩ := hlook (by omega) (shutL_of hj hs)
        exact ⟨b1, Or.inr b2⟩
    · intro u h1 hu hfu
      have := ht.even u h1 hu hfu
      rw [hHv, this]
      by_cases e : u = v
      · subst e; rw [if_pos rfl, hHv]
      · rw [if_neg e, hm.Lh, if_neg e]; omega
    · rw [hHv]; exact ht.lies
    · rw [hHv]; exact ht.sum

/-- A move that changes neither tokens nor items nor tickets. -/
theorem TokOk.still {p' : Pr} {ps : Ps} {H : Nat → Hist} {N : Nat} {l' : Hist} {d : Nat → Int} (ha : p.node = (v : Int)) (he : ∀ u : Nat, 1 ≤ u → u < N → eP ps u p' = eP ps u p) (hb : balH l' = balH (H v)) (ht : togH l' = togH (H v)) (hi : itemsH l' = itemsH (H v)) (hp : putN l' = putN (H v)) (hs : ∀ u : Nat, stP u p' = stP u p) (htk : tickP p ≤ tickP p') (h7 : manyH 7 (-1) l' = manyH 7 (-1) (H v)) : TokOk c ps H N l' d d v p p' := by
  refine ⟨fun u h1 hu _ => ?_, fun _ _ => ?_, fun u hne => ?_, by omega, fun _ a => by rw [h7]; exact a⟩
  · rw [he u h1 hu, hb, ht]
    split <;> simp
  · rw [hi, hb, hs v]
    omega
  · rw [hs u]
    unfold stP
    rw [if_neg (by rw [ha]; omega)]

/-- A move that leaves the histories as they are. -/
theorem Here.ordPlain (h : Here c L P i v p n) (s : SInv L P) (ci : CInv c L.procs L.hist L.past.length (fun _ => 0)) {p' : Pr} {n' : PN} (hw : WRel c (L.setP i p') (P.foc v n' i (toPP p')))
    (hsn : n'.shut = n.shut) (hg : ¬ (16 ≤ p.phase ∧ p.phase ≤ 18)) (hg' : ¬ (16 ≤ p'.phase ∧ p'.phase ≤ 18)) (hk : p'.kind = p.kind) (hcq : CQ c L.hist p') (ha : AtOk v p p') (h20 : p'.phase = 20 → p'.node = 0)
    (hlook : p.phase = 1 → shutL v L.procs = true → p'.node = (v : Int) ∧ p'.phase = 2)
    (he : ∀ u : Nat, 1 ≤ u → u < L.past.length → eP L.procs u p' = eP L.procs u p) (hs : ∀ u : Nat, stP u p' = stP u p) (htk : tickP p ≤ tickP p') :
    CRel c (L.setP i p') (P.foc v n' i (toPP p')) := by
  obtain ⟨a, b⟩ := h.ord s ci (moved_plain c L P i v p' n') hsn hg hg' rfl hk hcq ha h20 hlook (TokOk.still h.at' he rfl rfl rfl rfl hs htk rfl)
  exact ⟨hw, a, b⟩

/-- Inc, Put, Get: what is to be known of one that is not at a gate. -/
theorem CQ.walks {H : Nat → Hist} {p p' : Pr} (q : CQ c H p) (hk : p.kind < 3) (hk' : p'.kind = p.kind) (hg' : ¬ (15 ≤ p'.phase ∧ p'.phase ≤ 18)) : CQ c H p' :=
  ⟨by rw [hk']; exact q.kinds, fun _ => hg', fun a => by omega, fun a b => absurd ⟨by omega, b⟩ hg'⟩

theorem Here.kind3 (h : Here c L P i v p n) {d : Nat → Int} (ci : CInv c L.procs L.hist L.past.length d) (h3 : 3 ≤ p.phase) (h14 : p.phase ≤ 14) : p.kind < 3 := by
  have q := ci.cq i h.hi
  rw [h.ep] at q
  by_cases e : p.kind < 3
  · exact e
  · obtain ⟨_, _, a⟩ := q.chg (by omega)
    omega
theorem Here.cq (h : Here c L P i v p n) {d : Nat → Int} (ci : CInv c L.procs L.hist L.past.length d) : CQ c L.hist p := by
  have q := ci.cq i h.hi
  rw [h.ep] at q
  exact q

/-- No token, whatever it waits for. -/
theorem eP_change {ps : Ps} {p : Pr} (hk : 3 ≤ p.kind) (u : Nat) : eP ps u p = 0 := by
  have e : sgn p.kind = 0 := by unfold sgn; rw [if_neg (by omega), if_neg (by omega)]
  unfold eP tokP wcP
  rw [e]
  split <;> split <;> simp
theorem eP_out {ps : Ps} {p : Pr} (hp : 12 < p.phase) (u : Nat) : eP ps u p = 0 := by
  have a : metB p = false := by unfold metB; have h6 : ¬ p.phase = 6 := by omega
                                have h7 : ¬ p.phase = 7 := by omega
                                simp [h6, h7]
  unfold eP tokP wcP
  rw [if_neg (by omega), a]
  simp
/-- One that does not wait. -/
theorem eP_walk {ps : Ps} {p : Pr} (hp : p.phase ≤ 12) (h6 : p.phase ≠ 6) (h7 : p.phase ≠ 7) (u : Nat) : eP ps u p = side u p.node.toNat * sgn p.kind := by
  have a : metB p = false := by unfold metB; simp [h6, h7]
  unfold eP tokP wcP
  rw [if_pos hp, a]
  simp
/-- One that waits and was not met. -/
theorem eP_wait {ps : Ps} {p : Pr} (hp : p.phase ≤ 12) (hm : p.met < 0) (u : Nat) : eP ps u p = side u p.node.toNat * sgn p.kind := by
  have a : metB p = false := by unfold metB; have : ¬ 0 ≤ p.met := by omega
                                simp [this]
  unfold eP tokP wcP
  rw [if_pos hp, a]
  simp
theorem eP_met {ps : Ps} {p : Pr} (hp : p.phase = 6 ∨ p.phase = 7) (hm : 0 ≤ p.met) (u : Nat) : eP ps u p = if kindAt ps p.met = p.kind then side u p.node.toNat * sgn p.kind + (if p.node = (u : Int) then sgn p.kind else 0) else 0 := by
  have a : metB p = true := by unfold metB; simp [hp, hm]
  unfold eP tokP wcP
  rw [if_pos (by omega), a]
  by_cases e : kindAt ps p.met = p.kind
  · rw [if_neg (by simp [e]), if_pos e]
    simp [e]
  · rw [if_pos ⟨rfl, e⟩, if_neg e, if_neg (fun x => e x.2.2)]
    simp
theorem stP_no {p : Pr} (h13 : p.phase ≠ 13) (h14 : p.phase ≠ 14) (u : Nat) : stP u p = 0 := by
  unfold stP
  rw [if_neg h13, if_neg h14]
  split <;> rfl
end

section
variable {c : Conf} {L : Lay} {P : PLay} {i v : Nat} {p p' : Pr} {n : PN} {H : Nat → Hist}

theorem CQ.stay (q : CQ c H p) (hp : p.phase = 0 ∨ p.phase = 1 ∨ p.phase = 2) (hp' : p'.phase = 0 ∨ p'.phase = 1 ∨ p'.phase = 2) (hk : p'.kind = p.kind) (ho : p'.onode = p.onode) (hn : p'.node = p.node) : CQ c H p' := by
  refine ⟨by rw [hk]; exact q.kinds, fun _ => by omega, fun a => ?_, fun a b => by omega⟩
  obtain ⟨a1, a2, a3⟩ := q.chg (by omega)
  rw [ho, hn]
  refine ⟨a1, a2, Or.inl ⟨hp', ?_⟩⟩
  rcases a3 with a3 | a3 | a3
  · exact a3.2
  · omega
  · omega
theorem CQ.out (q : CQ c H p) (hp' : p'.phase = 19 ∨ p'.phase = 20) (hk : p'.kind = p.kind) (ho : p'.onode = p.onode) : CQ c H p' := by
  refine ⟨by rw [hk]; exact q.kinds, fun _ => by omega, fun a => ?_, fun a b => by omega⟩
  obtain ⟨a1, a2, a3⟩ := q.chg (by omega)
  rw [ho]
  exact ⟨a1, a2, by omega⟩

theorem eP_ww {ps : Ps} (hn : p'.node = p.node) (hk : p'.kind = p.kind) (h1 : p.phase ≤ 12) (h2 : p.phase ≠ 6) (h3 : p.phase ≠ 7) (h4 : p'.phase ≤ 12) (h5 : p'.phase ≠ 6) (h6 : p'.phase ≠ 7) (u : Nat) : eP ps u p' = eP ps u p := by
  rw [eP_walk h4 h5 h6, eP_walk h1 h2 h3, hn, hk]

theorem stP_same (h1 : p.phase ≠ 13) (h2 : p.phase ≠ 14) (h3 : p'.phase ≠ 13) (h4 : p'.phase ≠ 14) (u : Nat) : stP u p' = stP u p := by rw [stP_no h3 h4, stP_no h1 h2]
theorem tick_le (h : p.phase ≠ 13) (h1 : p.phase ≠ 14) (h2 : p.phase ≠ 19) (h3 : p.phase ≠ 20) : tickP p ≤ tickP p' := by
  unfold tickP
  rw [if_neg (by omega)]
  split <;> omega
theorem tick_one (h : p.phase = 13 ∨ p.phase = 14 ∨ p.phase = 19 ∨ p.phase = 20) : tickP p = 1 := by unfold tickP; rw [if_pos h]

/-- Only the count of its steps changes. -/
theorem Here.cinc (h : Here c L P i v p n) (k : CK c L P) : CK c (L.setP i (incPr p)) P := by
  have hfs := h.foc_self (wrap64 (p.steps + 1))
  have hm := moved_plain c L P i v (incPr p) n
  have hl := h.rel.lenle
  refine ⟨?_, ?_⟩
  · have hs := h.sinv k.si hm rfl (fun u _ => rfl) (by
      show n.shut = shutL v (L.procs.set i ((L.procs.getD i (0, incPr p)).1, incPr p))
      rw [shutL_set (v : Int) L.procs i h.hi ((L.procs.getD i (0, incPr p)).1, incPr p) (by show shutP v (incPr p) = _; rw [h.ep]; rfl)]
      have := k.si.shut v h.v1 h.vN h.f3
      rw [h.en] at this
      exact this)
    have e : P.foc v n i (toPP (incPr p)) = P := hfs
    rw [e] at hs
    exact hs
  · have ci := k.ci
    refine ci.move (H' := (L.setP i (incPr p)).hist) (d' := fun _ => 0) h.rel.len (by omega) h.hi (v := v) ?_
    rw [h.ep]
    have q := h.cq ci
    refine ⟨h.at', h.v1, h.vN, fun _ _ => rfl, rfl, rfl, ⟨q.kinds, q.walk, q.chg, q.gform⟩, fun a b => ⟨h.at', Or.inl ⟨a, b⟩⟩, fun _ _ _ _ => rfl, fun a j hj hne ho => ?_, fun _ hp ho => ⟨h.at', hp ho⟩, fun u _ _ _ => ?_, fun _ _ => ?_, fun u hne => ?_, by show putN (L.hist v) - putN (L.hist v) ≤ tickP p - tickP p; omega, fun _ a => a⟩
    · have := ci.calm i j h.hi hj (by rw [h.ep]; exact a) (by rw [h.ep, h.toNat]; exact ho)
      rw [h.ep, h.at'] at this
      exact this
    · show eP L.procs u p - eP L.procs u p + side u v * (balH (L.hist v) - balH (L.hist v)) + 0 = togH (L.hist u) - togH (L.hist u) + 0
      simp
    · show ((itemsH (L.hist v)).length : Int) + stP v p - (itemsH (L.hist v)).length - stP v p = balH (L.hist v) - balH (L.hist v)
      omega
    · show stP u p = 0
      unfold stP
      rw [if_neg (by rw [h.at']; omega)]

theorem Here.center (h : Here c L P i v p n) (k : CK c L P) (hph : p.phase = 0) : CRel c (L.setP i { incPr p with phase := 1 }) (P.foc v { n with inside := n.inside + 1 } i (toPP { incPr p with phase := 1 })) :=
  h.ordPlain k.si k.ci (h.enter hph) rfl (by omega) (by simp) rfl ((h.cq k.ci).stay (Or.inl hph) (by simp) rfl rfl rfl) (Or.inr (Or.inl ⟨hph, rfl, rfl⟩)) (by simp) (fun a => by omega)
    (fun u _ _ => by exact eP_ww (p := p) (by rfl) (by rfl) (by omega) (by omega) (by omega) (by simp) (by simp) (by simp) u) (fun u => by exact stP_same (p := p) (by omega) (by omega) (by simp) (by simp) u) (by exact tick_le (p := p) (by omega) (by omega) (by omega) (by omega))

theorem Here.cback (h : Here c L P i v p n) (k : CK c L P) (hph : p.phase = 2) : CRel c (L.setP i { incPr p with phase := 0 }) (P.foc v { n with inside := n.inside - 1 } i (toPP { incPr p with phase := 0 })) := by
  have htn := h.toNat
  have ha' : atP { incPr p with phase := 0 } = v / 2 := by unfold atP; rw [if_pos (Or.inl rfl)]; show p.node.toNat / 2 = _; rw [htn]
  have ha : atP p = v := by unfold atP; rw [if_neg (by omega)]; exact htn
  exact h.ordPlain k.si k.ci (h.back hph) rfl (by omega) (by simp) rfl ((h.cq k.ci).stay (by omega) (by simp) rfl rfl rfl) (Or.inr (Or.inr ⟨ha, ha'⟩)) (by simp) (fun a => by omega)
    (fun u _ _ => by exact eP_ww (p := p) (by rfl) (by rfl) (by omega) (by omega) (by omega) (by simp) (by simp) (by simp) u) (fun u => by exact stP_same (p := p) (by omega) (by omega) (by simp) (by simp) u) (by exact tick_le (p := p) (by omega) (by omega) (by omega) (by omega))

theorem up_phase (p : Pr) : (upPr p).phase = 19 ∨ (upPr p).phase = 20 := by
  unfold upPr
  simp only
  split <;> simp
theorem up_done (p : Pr) : (upPr p).phase = 20 → (upPr p).node = 0 := by
  unfold upPr
  simp only
  split
  · intro _; assumption
  · intro a; simp at a
theorem up_at {p : Pr} {v : Nat} (h : p.node = (v : Int)) : atP (upPr p) = v / 2 := by
  unfold atP
  rw [if_neg (by have := up_phase p; omega)]
  show (p.node / 2).toNat = _
  rw [h]
  omega

theorem Here.cleave (h : Here c L P i v p n) (k : CK c L P) (hph : p.phase = 19) : CRel c (L.setP i (upPr (incPr p))) (P.foc v { n with inside := n.inside - 1 } i (toPP (upPr (incPr p)))) := by
  have htn := h.toNat
  have hup := up_phase (incPr p)
  have ha : atP p = v := by unfold atP; rw [if_neg (by omega)]; exact htn
  exact h.ordPlain k.si k.ci (h.leave hph) rfl (by omega) (by omega) rfl ((h.cq k.ci).out hup rfl rfl) (Or.inr (Or.inr ⟨ha, up_at h.at'⟩)) (up_done _) (fun a => by omega)
    (fun u _ _ => by rw [eP_out (p := upPr (incPr p)) (by omega), eP_out (p := p) (by omega)]) (fun u => by exact stP_same (p := p) (by omega) (by omega) (by omega) (by omega) u) (by rw [tick_one (p := upPr (incPr p)) (by omega), tick_one (p := p) (by omega)]; exact Int.le_refl _)

theorem Here.clook (h : Here c L P i v p n) (k : CK c L P) (hph : p.phase = 1) (hk : p.kind < 3) (hs : shutL v L.procs = false) : CRel c (L.setP i { p with phase := if formH (L.hist v) = 1 then 3 else 12 }) (P.foc v n i (toPP { p with phase := if formH (L.hist v) = 1 then 3 else 12 })) := by
  have hw := h.look hph
  generalize hx : (if formH (L.hist v) = 1 then (3 : Int) else 12) = x at *
  have hx' : x = 3 ∨ x = 12 := by split at hx <;> omega
  refine h.ordPlain k.si k.ci hw rfl (by omega) (by show ¬ (16 ≤ x ∧ x ≤ 18); omega) rfl ((h.cq k.ci).walks hk rfl (by show ¬ (15 ≤ x ∧ x ≤ 18); omega)) (Or.inl ⟨?_, by omega⟩) (fun a => absurd a (by show x ≠ 20; omega)) (fun _ a => by rw [hs] at a; simp at a)
    (fun u _ _ => by exact eP_ww (p := p) (by rfl) (by rfl) (by omega) (by omega) (by omega) (by show x ≤ 12; omega) (by show x ≠ 6; omega) (by show x ≠ 7; omega) u) (fun u => by exact stP_same (p := p) (by omega) (by omega) (by show x ≠ 13; omega) (by show x ≠ 14; omega) u) (by exact tick_le (p := p) (by omega) (by omega) (by omega) (by omega))
  unfold atP
  rw [if_neg (by show ¬ (x = 0 ∨ x = 15 ∨ x = 16 ∨ x = 17 ∨ x = 18); omega), if_neg (by omega)]

theorem Here.clookShut (h : Here c L P i v p n) (k : CK c L P) (hph : p.phase = 1) : CRel c (L.setP i { p with phase := 2 }) (P.foc v n i (toPP { p with phase := 2 })) := by
  have q := h.q
  have hw : WRel c (L.setP i { p with phase := 2 }) (P.foc v n i (toPP { p with phase := 2 })) := by
    refine h.plain { p with phase := 2 } (by simp [atP, hph]) (by simp) (fun k => nowait (by omega) (by omega) _ _) (fun u k => nowait (by simp) (by simp) _ _) (by simp [potP, hph]) ?_ (fun a => absurd a (by simp))
    exact ⟨by simp, q.kind, fun a => absurd a (by simp), fun _ => q.live h.live, fun a _ => absurd a (by simp), fun a b => absurd a (by simp), q.slot, ⟨q.wide.1, q.wide.2.1, fun a b => absurd a (by simp)⟩, fun a => absurd a (by simp), q.pat, q.tick.1, q.tick.2.1, fun a => absurd a (by simp)⟩
  exact h.ordPlain k.si k.ci hw rfl (by omega) (by simp) rfl ((h.cq k.ci).stay (by omega) (by simp) rfl rfl rfl) (Or.inl ⟨by simp [atP, hph], by omega⟩) (by simp) (fun _ _ => ⟨h.at', rfl⟩)
    (fun u _ _ => by exact eP_ww (p := p) (by rfl) (by rfl) (by omega) (by omega) (by omega) (by simp) (by simp) (by simp) u) (fun u => by exact stP_same (p := p) (by omega) (by omega) (by simp) (by simp) u) (by exact tick_le (p := p) (by omega) (by omega) (by omega) (by omega))

/-- The phases at an inner node, with the histories as they are. -/
theorem Here.cslot (h : Here c L P i v p n) (k : CK c L P) (h3 : 3 ≤ p.phase) (h11 : p.phase ≤ 11) {n' : PN} (hw : WRel c (L.setP i p') (P.foc v n' i (toPP p'))) (hsn : n'.shut = n.shut) (hk : p'.kind = p.kind) (hp : (3 ≤ p'.phase ∧ p'.phase ≤ 11 ∧ p'.node = p.node) ∨ (p'.phase = 0 ∧ p'.node.toNat / 2 = v) ∨ (p'.phase = 19 ∧ p'.node = p.node))
    (he : ∀ u : Nat, 1 ≤ u → u < L.past.length → eP L.procs u p' = eP L.procs u p) : CRel c (L.setP i p') (P.foc v n' i (toPP p')) := by
  have hkk := h.kind3 k.ci h3 (by omega)
  have ha : atP p = v := by unfold atP; rw [if_neg (by omega)]; exact h.toNat
  refine h.ordPlain k.si k.ci hw hsn (by omega) (by omega) hk ((h.cq k.ci).walks hkk hk (by omega)) (Or.inl ⟨?_, by omega⟩) (fun a => by omega) (fun a => by omega) he (fun u => by exact stP_same (p := p) (by omega) (by omega) (by omega) (by omega) u) (by exact tick_le (p := p) (by omega) (by omega) (by omega) (by omega))
  rw [ha]
  unfold atP
  rcases hp with hp | hp | hp
  · rw [if_neg (by omega), hp.2.2]; exact h.toNat
  · rw [if_pos (by omega)]; exact hp.2
  · rw [if_neg (by omega), hp.2]; exact h.toNat

theorem Here.cwide (h : Here c L P i v p n) (k : CK c L P) (hph : p.phase = 3) (draw : Int) (m : Nat) (hm : widthH (L.hist v) = (m : Int)) : CRel c (L.setP i { p with wide := m, slot := draw % m, phase := 4 }) (P.foc v n i (toPP { p with wide := m, slot := draw % m, phase := 4 })) :=
  h.cslot k (by omega) (by omega) (h.wide hph draw m hm) rfl rfl (Or.inl ⟨by simp, by simp, rfl⟩) (fun u _ _ => by exact eP_ww (p := p) (by rfl) (by rfl) (by omega) (by omega) (by omega) (by simp) (by simp) (by simp) u)

theorem Here.camong (h : Here c L P i v p n) (k : CK c L P) (h3 : 3 ≤ p.phase) (h10 : p.phase ≤ 10) (h6 : p.phase ≠ 6) (h7 : p.phase ≠ 7) (ph md : Int) (hp : ph = 5 ∨ ph = 8 ∨ ph = 9 ∨ ph = 11) (hmd : ph = 8 → ∃ j : Nat, md = (j : Int) ∧ j < L.procs.length ∧ j ≠ i) (h4 : 4 ≤ p.phase) :
    CRel c (L.setP i { p with mind := md, phase := ph }) (P.foc v n i (toPP { p with mind := md, phase := ph })) := by
  have hw := h.among h3 h10 h6 h7 ph md hp hmd h4
  clear hmd
  exact h.cslot k (by omega) (by omega) hw rfl rfl (Or.inl ⟨by show 3 ≤ ph; omega, by show ph ≤ 11; omega, rfl⟩) (fun u _ _ => by exact eP_ww (p := p) (by rfl) (by rfl) (by omega) (by omega) (by omega) (by show ph ≤ 12; omega) (by show ph ≠ 6; omega) (by show ph ≠ 7; omega) u)

theorem Here.cclaim (h : Here c L P i v p n) (k' : CK c L P) (hph : p.phase = 5) {k : Nat} (hk : k < 4) (hs : p.slot = (k : Int)) (h0 : (n.slot k).st = 0) :
    CRel c (L.setP i { p with phase := 6, met := -1, pat := c.spin }) (P.foc v (n.setSlot k ⟨1, i, 0⟩) i (toPP { p with phase := 6, met := -1, pat := c.spin })) :=
  h.cslot k' (by omega) (by omega) (h.claim hph hk hs h0) (setSlot_fields n k _).2.2.1 rfl (Or.inl ⟨by simp, by simp, rfl⟩) (fun u _ _ => by rw [eP_wait (by simp) (by simp), eP_walk (by omega) (by omega) (by omega)])

theorem Here.cwait (h : Here c L P i v p n) (k' : CK c L P) (hph : p.phase = 6) {k : Nat} (hk : k < 4) (hs : p.slot = (k : Int)) :
    CRel c (L.setP i (waitPr p)) (P.foc v (waitPN n k (toPP p)) i (waitPP (n.slot k) (toPP p))) := by
  obtain ⟨hw, he⟩ := h.wait hph hk hs
  rw [← he] at hw ⊢
  have hsn : (waitPN n k (toPP p)).shut = n.shut := by
    unfold waitPN
    split
    · rfl
    · split
      · rfl
      · exact (setSlot_fields n k _).2.2.1
  have hwk : (waitPr p).kind = p.kind := by
    unfold waitPr
    split
    · rfl
    · split <;> rfl
  refine h.cslot k' (by omega) (by omega) hw hsn hwk (Or.inl ?_) (fun u _ _ => ?_)
  · unfold waitPr
    split
    · exact ⟨by simp, by simp, rfl⟩
    · split
      · exact ⟨by show 3 ≤ p.phase; omega, by show p.phase ≤ 11; omega, rfl⟩
      · exact ⟨by simp, by simp, rfl⟩
  · unfold waitPr
    split
    · rename_i hm
      rw [eP_met (p := { p with phase := 7 }) (Or.inr rfl) hm, eP_met (Or.inl hph) hm]
    · rename_i hm
      split
      · rw [eP_wait (p := { p with pat := p.pat - 1 }) (by show p.phase ≤ 12; omega) (by show p.met < 0; omega), eP_wait (by omega) (by omega)]
      · rw [eP_walk (p := { p with phase := 10 }) (by simp) (by simp) (by simp), eP_wait (by omega) (by omega)]

theorem settled_kind (p q : Pr) (b : Int) : (settledPr p q b).kind = p.kind := by
  unfold settledPr
  split
  · rfl
  · split <;> rfl
theorem settled_cases (p q : Pr) (b : Int) : (p.kind = q.kind ∧ (settledPr p q b).phase = 0 ∧ (settledPr p q b).node = 2 * p.node + b) ∨ (p.kind ≠ q.kind ∧ (settledPr p q b).phase = 19 ∧ (settledPr p q b).node = p.node) := by
  unfold settledPr
  by_cases e : p.kind = q.kind
  · rw [if_pos e]; exact Or.inl ⟨e, rfl, rfl⟩
  · rw [if_neg e]
    refine Or.inr ⟨e, ?_⟩
    split <;> exact ⟨rfl, rfl⟩

theorem Here.kidNat (h : Here c L P i v p n) (hf : formH (L.hist v) = 1) (b : Nat) (hb : b = 0 ∨ b = 1) : (2 * p.node + (b : Int)).toNat = 2 * v + b ∧ 2 * v + b < 32 := by
  obtain ⟨u, e1, e2, e3, e4, e5, e6⟩ := h.kid hf b (by omega)
  have := h.at'
  have := h.rel.lenle
  constructor <;> omega

theorem Here.ctaken (h : Here c L P i v p n) (k' : CK c L P) (hph : p.phase = 7) {k : Nat} (hk : k < 4) (hs : p.slot = (k : Int)) (b' : Nat) (hm : p.met = (b' : Int)) (hb : b' < L.procs.length) :
    CRel c (L.setP i (settledPr { p with met := -1 } (L.procs[b']).2 0)) (P.foc v (n.setSlot k zeroSL) i (toPP (settledPr { p with met := -1 } (L.procs[b']).2 0))) := by
  have hf := h.inner (by omega) (by omega)
  have hv := h.v32
  obtain ⟨k1, k2⟩ := h.kidNat hf 0 (Or.inl rfl)
  have hw := h.taken hph hk hs (L.procs[b']).2
  have hkat : kindAt L.procs p.met = (L.procs[b']).2.kind := by unfold kindAt; rw [hm]; simp [hb]
  have hsc := settled_cases { p with met := -1 } (L.procs[b']).2 0
  refine h.cslot k' (by omega) (by omega) hw (setSlot_fields n k _).2.2.1 (settled_kind _ _ _) (Or.inr ?_) (fun u h1 hu => ?_)
  · rcases hsc with ⟨_, a, b⟩ | ⟨_, a, b⟩
    · refine Or.inl ⟨a, ?_⟩
      rw [b]
      show (2 * p.node + 0).toNat / 2 = v
      have : (2 * p.node + ((0 : Nat) : Int)).toNat = 2 * v + 0 := k1
      simp only [Int.natCast_zero] at this
      omega
    · exact Or.inr ⟨a, b⟩
  · rw [eP_met (p := p) (Or.inr hph) (by omega), hkat]
    have hl := h.rel.lenle
    rcases hsc with ⟨e, a, b⟩ | ⟨e, a, b⟩
    · have e' : p.kind = (L.procs[b']).2.kind := e
      rw [if_pos e'.symm, eP_walk (by omega) (by omega) (by omega), settled_kind, b, h.toNat, h.at']
      have sk := (side_kid ⟨u, by omega⟩ ⟨v, hv⟩ h1 h.v1).1
      have ss := side_self ⟨v, hv⟩ h.v1
      simp only at sk ss
      have k1' : (2 * (v : Int) + 0).toNat = 2 * v := by omega
      show side u (2 * (v : Int) + 0).toNat * sgn p.kind = _
      rw [k1', sk]
      by_cases eu : u = v
      · subst eu; rw [if_pos rfl, if_pos rfl, ss]; simp
      · rw [if_neg eu, if_neg (by omega)]; simp
    · have e' : ¬ (L.procs[b']).2.kind = p.kind := fun x => e x.symm
      rw [if_neg e', eP_out (by omega)]
end

theorem sgn_opp {a b : Int} (ha : a = 1 ∨ a = 2) (hb : b = 1 ∨ b = 2) (hne : a ≠ b) : sgn a + sgn b = 0 := by
  rcases ha with rfl | rfl <;> rcases hb with rfl | rfl <;> first | (exact absurd rfl hne) | decide

section
variable {c : Conf} {L : Lay} {P : PLay} {i v : Nat} {p p' : Pr} {n : PN}

/-- A meeting: who waits at j is met by i, and i settles it. -/
theorem Here.cmeet (h : Here c L P i v p n) (k' : CK c L P) (hph : p.phase = 8) {k : Nat} (hk : k < 4) (hs : p.slot = (k : Int)) (hm : meetsP (n.slot k) (toPP p)) :
    ∃ j, ∃ hj : j < L.procs.length, p.mind = (j : Int) ∧ j ≠ i ∧ (n.slot k).wh = (j : Int) ∧ meets L p (L.procs[j]).2 = true ∧
      CRel c ((L.setP j { (L.procs[j]).2 with met := i }).setP i (settledPr { p with met := p.met } { (L.procs[j]).2 with met := i } 1)) ((P.foc v (n.setSlot k ⟨2, (n.slot k).wh, i⟩) i (toPP p)).foc v (n.setSlot k ⟨2, (n.slot k).wh, i⟩) i (toPP (settledPr { p with met := p.met } { (L.procs[j]).2 with met := i } 1))) := by
  have hep := h.ep
  have hf := h.inner (by omega) (by omega)
  have hv := h.v32
  have hl := h.rel.lenle
  obtain ⟨j, hj, m1, hji, hwh, hmt, hH⟩ := h.meet1 hph hk hs hm
  refine ⟨j, hj, m1, hji, hwh, hmt, hH.meet2 hph _ _, ?_⟩
  -- what is known of j
  have hsr := h.slotRel hf hk
  obtain ⟨q6, qm, qn⟩ : (L.procs[j]).2.phase = 6 ∧ (L.procs[j]).2.met = -1 ∧ (L.procs[j]).2.node = (v : Int) := by
    rcases hsr with ⟨h0, _⟩ | ⟨a, ha, a1, a2, a3, a4⟩
    · exact absurd h0 (by have := hm.1; omega)
    · have e : a = j := by omega
      subst e
      have hn : (L.procs[a]).2.node = (v : Int) := by simp [waitP] at a2; exact a2.1.1
      rcases a4 with ⟨_, b2, b3⟩ | ⟨b1, _⟩
      · exact ⟨b2, b3, hn⟩
      · exact absurd b1 (by have := hm.1; omega)
  have hJ : Here c L P j v (L.procs[j]).2 n := ⟨h.rel, hj, rfl, h.en, h.rel.qs j hj, by omega, qn, h.v1, h.vN, h.f3, h.nr⟩
  have ki := h.kind3 k'.ci (by omega) (by omega)
  have kj := hJ.kind3 k'.ci (by omega) (by omega)
  have hkind : ∀ m : Int, m = (i : Int) → kindAt L.procs m = p.kind := by
    intro m e
    subst e
    unfold kindAt
    have := h.hi
    simp [this, hep]
  -- who waits is met
  have moved1 : Moved c L P j v { (L.procs[j]).2 with met := i } (n.setSlot k ⟨2, (n.slot k).wh, i⟩) (L.hist v) (L.setP j { (L.procs[j]).2 with met := i }) (P.foc v (n.setSlot k ⟨2, (n.slot k).wh, i⟩) j (toPP { (L.procs[j]).2 with met := i })) := moved_plain c L P j v _ _
  have efoc : P.foc v (n.setSlot k ⟨2, (n.slot k).wh, i⟩) j (toPP { (L.procs[j]).2 with met := i }) = P.foc v (n.setSlot k ⟨2, (n.slot k).wh, i⟩) i (toPP p) := by
    have e1 : P.procs.set j (toPP { (L.procs[j]).2 with met := i }) = P.procs := by
      have hpl : j < P.procs.length := by rw [h.rel.procs, List.length_map]; exact hj
      have : toPP { (L.procs[j]).2 with met := i } = P.procs[j] := by simp [h.rel.procs, toPP]
      rw [this, List.set_getElem_self]
    have e2 : P.procs.set i (toPP p) = P.procs := by
      have hpl : i < P.procs.length := by rw [h.rel.procs, List.length_map]; exact h.hi
      have : toPP p = P.procs[i] := by
        have : P.procs[i] = toPP (L.procs[i]'h.hi).2 := by simp [h.rel.procs]
        rw [this, hep]
      rw [this, List.set_getElem_self]
    show ({ P with nodes := _, procs := _ } : PLay) = { P with nodes := _, procs := _ }
    rw [e1, e2]
  have hkj := h.rel.qs j hj
  have D : ∀ u, 1 ≤ u → u < 32 → eP L.procs u { (L.procs[j]).2 with met := (i : Int) } - eP L.procs u (L.procs[j]).2 = (if p.kind = (L.procs[j]).2.kind then (if u = v then sgn p.kind else 0) else 0 - side u v * sgn (L.procs[j]).2.kind) := by
    intro u h1 hu
    rw [eP_met (p := { (L.procs[j]).2 with met := (i : Int) }) (Or.inl q6) (by show (0 : Int) ≤ (i : Int); omega), eP_wait (p := (L.procs[j]).2) (by omega) (by omega)]
    show (if kindAt L.procs (i : Int) = (L.procs[j]).2.kind then side u (L.procs[j]).2.node.toNat * sgn (L.procs[j]).2.kind + (if (L.procs[j]).2.node = (u : Int) then sgn (L.procs[j]).2.kind else 0) else 0) - side u (L.procs[j]).2.node.toNat * sgn (L.procs[j]).2.kind = _
    rw [hkind _ rfl, qn, Int.toNat_natCast]
    by_cases e : p.kind = (L.procs[j]).2.kind
    · rw [if_pos e, if_pos e, ← e]
      by_cases eu : u = v
      · subst eu; rw [if_pos rfl, if_pos rfl]; omega
      · rw [if_neg eu, if_neg (by omega)]; omega
    · rw [if_neg e, if_neg e]
  obtain ⟨s1, c1⟩ := hJ.ord k'.si (d' := fun u => eP L.procs u { (L.procs[j]).2 with met := (i : Int) } - eP L.procs u (L.procs[j]).2) k'.ci moved1 (setSlot_fields n k _).2.2.1 (by omega) (by show ¬ (16 ≤ (L.procs[j]).2.phase ∧ _); omega) rfl rfl ((hJ.cq k'.ci).walks kj rfl (by show ¬ (15 ≤ (L.procs[j]).2.phase ∧ _); omega)) (Or.inl ⟨rfl, by omega⟩) (fun a => by have : (L.procs[j]).2.phase = 20 := a; omega) (fun a => by omega)
    ⟨fun u h1 hu _ => by simp, fun _ _ => by show _ + stP v (L.procs[j]).2 - _ - _ = _; omega, fun u hne => stP_no (by show (L.procs[j]).2.phase ≠ 13; omega) (by show (L.procs[j]).2.phase ≠ 14; omega) u, by show _ - _ ≤ tickP (L.procs[j]).2 - tickP (L.procs[j]).2; omega, fun _ a => a⟩
  rw [efoc] at s1
  -- who met it goes on
  have moved2 := moved_plain c (L.setP j { (L.procs[j]).2 with met := i }) (P.foc v (n.setSlot k ⟨2, (n.slot k).wh, i⟩) i (toPP p)) i v (settledPr { p with met := p.met } { (L.procs[j]).2 with met := i } 1) (n.setSlot k ⟨2, (n.slot k).wh, i⟩)
  have hsc := settled_cases { p with met := p.met } { (L.procs[j]).2 with met := i } 1
  have hskd := settled_kind { p with met := p.met } { (L.procs[j]).2 with met := i } 1
  obtain ⟨u1, u2⟩ := h.kidNat hf 1 (Or.inr rfl)
  have htn := h.toNat
  have hap : atP p = v := by unfold atP; rw [if_neg (by omega)]; exact htn
  have hat : atP (settledPr { p with met := p.met } { (L.procs[j]).2 with met := i } 1) = atP p := by
    rw [hap]
    unfold atP
    rcases hsc with ⟨_, a, b⟩ | ⟨_, a, b⟩
    · rw [if_pos (by omega), b]
      show (2 * p.node + 1).toNat / 2 = v
      have : (2 * p.node + ((1 : Nat) : Int)).toNat = 2 * v + 1 := u1
      omega
    · rw [if_neg (by omega), b]; exact htn
  generalize hpp : settledPr { p with met := p.met } { (L.procs[j]).2 with met := i } 1 = pp at *
  have ek : pp.kind = p.kind := hskd
  have ht : TokOk c (L.setP j { (L.procs[j]).2 with met := i }).procs (L.setP j { (L.procs[j]).2 with met := i }).hist (L.setP j { (L.procs[j]).2 with met := i }).past.length ((L.setP j { (L.procs[j]).2 with met := i }).hist v) (fun u => eP L.procs u { (L.procs[j]).2 with met := (i : Int) } - eP L.procs u (L.procs[j]).2) (fun _ => 0) v p pp := by
    refine ⟨fun u h1 hu _ => ?_, fun _ _ => ?_, fun u hne => stP_no (by omega) (by omega) u, ?_, fun _ a => a⟩
    · have hu32 : u < 32 := by have : u < L.past.length := hu; omega
      have hd := D u h1 hu32
      have sk := (side_kid ⟨u, hu32⟩ ⟨v, hv⟩ h1 h.v1).2
      simp only at sk
      rw [eP_walk (p := p) (by omega) (by omega) (by omega), htn]
      show eP _ u pp - _ + side u v * (balH (L.hist v) - balH (L.hist v)) + (eP L.procs u { (L.procs[j]).2 with met := (i : Int) } - eP L.procs u (L.procs[j]).2) = (if u = v then togH (L.hist v) - togH (L.hist v) else 0) + 0
      rw [hd]
      rcases hsc with ⟨e, a, b⟩ | ⟨e, a, b⟩
      · have e' : p.kind = (L.procs[j]).2.kind := e
        have bn : pp.node.toNat = 2 * v + 1 := by rw [b]; exact u1
        rw [if_pos e', eP_walk (by omega) (by omega) (by omega), ek, bn, sk]
        by_cases eu : u = v
        · subst eu
          have ss := side_self ⟨u, hu32⟩ h1
          simp only at ss
          rw [if_pos rfl, if_pos rfl, ss]
          simp
          omega
        · rw [if_neg eu, if_neg eu, if_neg eu]; simp
      · have e' : ¬ p.kind = (L.procs[j]).2.kind := e
        have hq := h.q.kind
        have hqj := hkj.kind
        have hop := sgn_opp (a := p.kind) (b := (L.procs[j]).2.kind) (by omega) (by omega) e'
        rw [if_neg e', eP_out (by omega)]
        have e3 : sgn (L.procs[j]).2.kind = - sgn p.kind := by omega
        rw [e3, Int.mul_neg]
        split <;> simp <;> omega
    · rw [stP_no (by omega) (by omega), stP_no (by omega) (by omega)]
      show ((itemsH (L.hist v)).length : Int) + 0 - (itemsH (L.hist v)).length - 0 = balH (L.hist v) - balH (L.hist v)
      omega
    · have := tick_le (p := p) (p' := pp) (by omega) (by omega) (by omega) (by omega)
      show putN (L.hist v) - putN (L.hist v) ≤ _
      omega
  obtain ⟨s2, c2⟩ := hH.ord s1 (d' := fun _ => 0) c1 moved2 rfl (by omega) (by omega) rfl ek ((hH.cq c1).walks ki ek (by omega)) (Or.inl ⟨hat, by omega⟩) (fun a => by omega) (fun a => by omega) ht
  exact ⟨s2, c2⟩

theorem bal_over (l : Hist) (ev : Ev) (iv : Value) (h3 : 3 < ev.what) (h6 : ev.what ≠ 6) (h7 : ev.what ≠ 7) : balH ((ev, iv) :: l) = balH l ∧ putN ((ev, iv) :: l) = putN l := by
  have hn3 : ¬ ev.what ≤ 3 := by omega
  unfold balH putN putsH
  simp [formH, fromH, manyH, hn3, h3, h6, h7]
theorem items_over (l : Hist) (ev : Ev) (iv : Value) (h3 : 3 < ev.what) (h6 : ev.what ≠ 6) (h8 : ev.what ≠ 8) (h9 : ev.what ≠ 9) : itemsH ((ev, iv) :: l) = itemsH l := by
  have hn3 : ¬ ev.what ≤ 3 := by omega
  have hp : putsH ((ev, iv) :: l) = putsH l := by unfold putsH; simp [fromH, manyH, hn3, h3, h6]
  unfold itemsH itemsTo
  rw [hp]
  refine filterMap_range_congr _ _ _ fun t _ => ?_
  unfold itemH takenH
  simp [manyH, fromH, laidH, hn3, h3, h9, h8]
theorem tog_over (l : Hist) (ev : Ev) (iv : Value) (h3 : 3 < ev.what) (h4 : ev.what ≠ 4) : togH ((ev, iv) :: l) = togH l := by
  have hn3 : ¬ ev.what ≤ 3 := by omega
  unfold togH
  simp [manyH, fromH, hn3, h3, h4]

theorem Here.cwiden (h : Here c L P i v p n) (k : CK c L P) (hph : p.phase = 9 ∨ p.phase = 10) (x : Value) (z : Int) (hz1 : 1 ≤ z) (hzc : z ≤ c.width) :
    CRel c ((L.hap v x ⟨5, z, 0, []⟩ (.slice none 0 0)).setP i { p with phase := 11 }) (P.foc v { n with width := z } i (toPP { p with phase := 11 })) := by
  have hkk := h.kind3 k.ci (by omega) (by omega)
  have hb := bal_over (L.hist v) ⟨5, z, 0, []⟩ (.slice none 0 0) (by simp) (by simp) (by simp)
  obtain ⟨a, b⟩ := h.ord k.si k.ci (moved_hap c L P i v h.vN x ⟨5, z, 0, []⟩ (.slice none 0 0) { p with phase := 11 } { n with width := z }) rfl (by omega) (by simp) (by simp [formH]) rfl ((h.cq k.ci).walks hkk rfl (by simp)) (Or.inl ⟨by unfold atP; rw [if_neg (by simp), if_neg (by omega)], by omega⟩) (by simp) (fun a => by omega)
    (TokOk.still h.at' (fun u _ _ => by exact eP_ww (p := p) (by rfl) (by rfl) (by omega) (by omega) (by omega) (by simp) (by simp) (by simp) u) hb.1 (tog_over _ _ _ (by simp) (by simp)) (items_over _ _ _ (by simp) (by simp) (by simp) (by simp)) hb.2 (fun u => by exact stP_same (p := p) (by omega) (by omega) (by simp) (by simp) u) (by exact tick_le (p := p) (by omega) (by omega) (by omega) (by omega)) (by simp [manyH]))
  exact ⟨h.widen hph x z hz1 hzc, a, b⟩

theorem Here.ctoggle (h : Here c L P i v p n) (k : CK c L P) (hph : p.phase = 11) (x : Value) (b : Int) (hb : b = if p.kind = 2 then (togH (L.hist v) + 1) % 2 else togH (L.hist v)) (s : Int) :
    CRel c ((L.hap v x ⟨4, 0, 0, []⟩ (.slice none 0 0)).setP i { p with node := 2 * p.node + b, phase := 0, steps := s }) (P.foc v { n with toggle := 1 - n.toggle } i (toPP { p with node := 2 * p.node + b, phase := 0, steps := s })) := by
  have hkk := h.kind3 k.ci (by omega) (by omega)
  have hf := h.inner (by omega) (by omega)
  have hv := h.v32
  have hl := h.rel.lenle
  have htn := h.toNat
  have ht01 : togH (L.hist v) = 0 ∨ togH (L.hist v) = 1 := by unfold togH; omega
  have hb01 : b = 0 ∨ b = 1 := by rw [hb]; split <;> omega
  have hq := h.q.kind
  have hbal := bal_over (L.hist v) ⟨4, 0, 0, []⟩ (.slice none 0 0) (by simp) (by simp) (by simp)
  have htg : togH ((⟨4, 0, 0, []⟩, Value.slice none 0 0) :: L.hist v) = 1 - togH (L.hist v) := by
    unfold togH
    simp [fromH, manyH]
    omega
  have hat := h.at'
  have hnd : (2 * p.node + b).toNat = 2 * v + b.toNat := by omega
  have hat' : atP { p with node := 2 * p.node + b, phase := 0, steps := s } = atP p := by
    unfold atP
    rw [if_pos (Or.inl rfl), if_neg (by omega), htn]
    show (2 * p.node + b).toNat / 2 = v
    omega
  have ht : TokOk c L.procs L.hist L.past.length ((⟨4, 0, 0, []⟩, Value.slice none 0 0) :: L.hist v) (fun _ => 0) (fun _ => 0) v p { p with node := 2 * p.node + b, phase := 0, steps := s } := by
    refine ⟨fun u h1 hu _ => ?_, fun _ h2 => by omega, fun u hne => stP_no (by simp) (by simp) u, ?_, fun _ a => by simpa [manyH] using a⟩
    · have hu32 : u < 32 := by omega
      have sk := side_kid ⟨u, hu32⟩ ⟨v, hv⟩ h1 h.v1
      have ss := side_self ⟨u, hu32⟩ h1
      simp only at sk ss
      rw [eP_walk (p := { p with node := 2 * p.node + b, phase := 0, steps := s }) (by simp) (by simp) (by simp), eP_walk (p := p) (by omega) (by omega) (by omega), htn, hbal.1]
      show side u (2 * p.node + b).toNat * sgn p.kind - side u v * sgn p.kind + side u v * (balH (L.hist v) - balH (L.hist v)) + 0 = _ + 0
      rw [hnd, htg]
      by_cases eu : u = v
      · subst eu
        rw [if_pos rfl, ss]
        rw [if_pos rfl, if_pos rfl] at sk
        have hsg : sgn p.kind = if p.kind = 2 then -1 else 1 := by
          unfold sgn
          split
          · rfl
          · rw [if_pos (by omega)]
        rcases hb01 with e | e
        · rw [e, show 2 * u + (0 : Int).toNat = 2 * u from rfl, sk.1, hsg]
          split at hb <;> rename_i hk2 <;> simp [hk2] <;> omega
        · rw [e, show 2 * u + (1 : Int).toNat = 2 * u + 1 from rfl, sk.2, hsg]
          split at hb <;> rename_i hk2 <;> simp [hk2] <;> omega
      · rw [if_neg eu]
        rw [if_neg eu, if_neg eu] at sk
        rcases hb01 with e | e
        · rw [e, show 2 * v + (0 : Int).toNat = 2 * v from rfl, sk.1]; simp
        · rw [e, show 2 * v + (1 : Int).toNat = 2 * v + 1 from rfl, sk.2]; simp
    · have := tick_le (p := p) (p' := { p with node := 2 * p.node + b, phase := 0, steps := s }) (by omega) (by omega) (by omega) (by omega)
      rw [hbal.2]
      omega
  obtain ⟨a, b'⟩ := h.ord k.si (d' := fun _ => 0) k.ci (moved_hap c L P i v h.vN x ⟨4, 0, 0, []⟩ (.slice none 0 0) { p with node := 2 * p.node + b, phase := 0, steps := s } { n with toggle := 1 - n.toggle }) rfl (by omega) (by simp) (by simp [formH]) rfl ((h.cq k.ci).walks hkk rfl (by simp)) (Or.inl ⟨hat', by omega⟩) (by simp) (fun a => by omega) ht
  exact ⟨h.toggle hph x b hb01 s, a, b'⟩
end

theorem pvals_set_len : ∀ (its : List (Int × Int)) (t : Nat) (ht : t < its.length) (y : Int × Int), (pvals (its.set t y)).length + (if (its[t]).1 = 1 then 1 else 0) = (pvals its).length + (if y.1 = 1 then 1 else 0)
  | [], t, ht, _ => by simp at ht
  | x :: r, 0, _, y => by
    simp only [List.set_cons_zero, List.getElem_cons_zero, pvals, List.length_map, List.filter_cons, beq_iff_eq]
    split <;> split <;> simp only [List.length_cons] <;> omega
  | x :: r, t + 1, ht, y => by
    have := pvals_set_len r t (by simpa using ht) y
    simp only [List.set_cons_succ, List.getElem_cons_succ, pvals, List.length_map, List.filter_cons, beq_iff_eq] at this ⊢
    split <;> (try simp only [List.length_cons]) <;> omega

section
variable {c : Conf} {L : Lay} {P : PLay} {i v : Nat} {p p' : Pr} {n : PN}

theorem Here.itemsOld (h : Here c L P i v p n) (hf : formH (L.hist v) = 2) : itemsH (L.hist v) = pvals n.items := (h.nr.leaf hf).2.2.2.vals h.rel.confs.1
theorem Here.itemsNew (h : Here c L P i v p n) {n' : PN} {l' : Hist} {L' : Lay} {P' : PLay} (hm : Moved c L P i v p' n' l' L' P') (hw : WRel c L' P') (hf : formH l' = 2) : itemsH l' = pvals n'.items := by
  have hHv : L'.hist v = l' := by rw [hm.Lh, if_pos rfl]
  have hn := hw.nodes v h.v1 (by rw [hm.Ll]; exact h.vN)
  rw [getD_foc h.rel.plen h.v32 hm.Pn v, if_pos rfl, hHv] at hn
  exact (hn.leaf hf).2.2.2.vals h.rel.confs.1

/-- A move at a leaf. -/
theorem Here.cleaf (h : Here c L P i v p n) (k : CK c L P) (h12 : 12 ≤ p.phase) (h14 : p.phase ≤ 14) (x : Value) (ev : Ev) (hev : 3 < ev.what) {n' : PN} (hw : WRel c ((L.hap v x ev (.slice none 0 0)).setP i p') (P.foc v n' i (toPP p'))) (hsn : n'.shut = n.shut) (hk : p'.kind = p.kind) (hn : p'.node = p.node) (hph : p'.phase = 13 ∨ p'.phase = 14 ∨ p'.phase = 19)
    (hbal : balH ((ev, .slice none 0 0) :: L.hist v) - balH (L.hist v) = if p.phase = 12 then sgn p.kind else 0)
    (hlies : c.kind = 1 → ((pvals n'.items).length : Int) + stP v p' - (pvals n.items).length - stP v p = if p.phase = 12 then sgn p.kind else 0)
    (hsum : putN ((ev, .slice none 0 0) :: L.hist v) - putN (L.hist v) ≤ if p.phase = 12 then 1 else 0) (hnog : c.kind = 0 → ev.what ≠ 7) :
    CRel c ((L.hap v x ev (.slice none 0 0)).setP i p') (P.foc v n' i (toPP p')) := by
  have hkk := h.kind3 k.ci (by omega) (by omega)
  have hf := h.isLeaf h12 h14
  have htn := h.toNat
  have hfm : formH ((ev, Value.slice none 0 0) :: L.hist v) = formH (L.hist v) := by rw [formH, if_neg (by show ¬ ev.what ≤ 3; omega)]
  have hm := moved_hap c L P i v h.vN x ev (.slice none 0 0) p' n'
  have ht : TokOk c L.procs L.hist L.past.length ((ev, Value.slice none 0 0) :: L.hist v) (fun _ => 0) (fun _ => 0) v p p' := by
    refine ⟨fun u h1 hu hfu => ?_, fun hk1 _ => ?_, fun u hne => ?_, ?_, fun a b => by have h7 := hnog a; simp [manyH, hev, h7]; exact b⟩
    · have hne : u ≠ v := by intro e; subst e; omega
      rw [hbal, if_neg hne, eP_out (p := p') (by omega)]
      by_cases e : p.phase = 12
      · rw [if_pos e, eP_walk (p := p) (by omega) (by omega) (by omega), htn]; omega
      · rw [if_neg e, eP_out (p := p) (by omega)]; simp
    · rw [hbal, ← hlies hk1, h.itemsOld hf, h.itemsNew hm hw (by rw [hfm]; exact hf)]
    · unfold stP
      rw [if_neg (by rw [hn, h.at']; omega)]
    · have t1 : tickP p' = 1 := tick_one (by omega)
      by_cases e : p.phase = 12
      · rw [if_pos e] at hsum
        have : tickP p = 0 := by unfold tickP; rw [if_neg (by omega)]
        omega
      · rw [if_neg e] at hsum
        have : tickP p = 1 := tick_one (by omega)
        omega
  obtain ⟨a, b⟩ := h.ord k.si (d' := fun _ => 0) k.ci hm hsn (by omega) (by omega) hfm hk ((h.cq k.ci).walks hkk hk (by omega)) (Or.inl ⟨by unfold atP; rw [if_neg (by omega), if_neg (by omega), hn], by omega⟩) (fun a => by omega) (fun a => by omega) ht
  exact ⟨hw, a, b⟩

theorem Here.cinc12 (h : Here c L P i v p n) (k : CK c L P) (hph : p.phase = 12) (hk : p.kind = 0) (x : Value) (vl : Int) :
    CRel c ((L.hap v x ⟨6, 0, 0, []⟩ (.slice none 0 0)).setP i { p with val := vl, phase := 19 }) (P.foc v { n with puts := n.puts + 1 } i (toPP { p with val := vl, phase := 19 })) := by
  have hf := h.isLeaf (by omega) (by omega)
  have hq := h.q.kind
  refine h.cleaf k (by omega) (by omega) x ⟨6, 0, 0, []⟩ (by simp) (h.inc12 hph hk x vl) rfl rfl rfl (by simp) ?_ (fun a => by omega) ?_ (fun _ => by simp)
  · rw [if_pos hph, hk]
    unfold balH putsH
    simp [formH, fromH, manyH, hf, sgn]
    omega
  · rw [if_pos hph]
    unfold putN putsH
    simp [formH, fromH, manyH, hf]
    omega

theorem Here.cput12 (h : Here c L P i v p n) (k : CK c L P) (hph : p.phase = 12) (hk : p.kind = 1) (x y : Value) :
    CRel c ((L.hap v x ⟨6, 0, 0, []⟩ (.slice none 0 0)).setP i { p with ticket := putsH (L.hist v), phase := 13 }) (P.foc v { n with puts := n.puts + 1, iv := y, items := n.items ++ [(0, 0)] } i (toPP { p with ticket := putsH (L.hist v), phase := 13 })) := by
  have hf := h.isLeaf (by omega) (by omega)
  have hat := h.at'
  refine h.cleaf k (by omega) (by omega) x ⟨6, 0, 0, []⟩ (by simp) (h.put12 hph hk x y) rfl rfl rfl (by simp) ?_ (fun a => ?_) ?_ (fun _ => by simp)
  · rw [if_pos hph, hk]
    unfold balH putsH
    simp [formH, fromH, manyH, hf, sgn]
    omega
  · rw [if_pos hph, hk, stP_no (p := p) (by omega) (by omega)]
    have e : pvals (n.items ++ [(0, 0)]) = pvals n.items := by rw [pvals_snoc]; simp
    show ((pvals (n.items ++ [(0, 0)])).length : Int) + stP v { p with ticket := putsH (L.hist v), phase := 13 } - _ - _ = _
    rw [e]
    have : stP v { p with ticket := putsH (L.hist v), phase := 13 } = 1 := by unfold stP; rw [if_pos hat, if_pos rfl]
    rw [this]
    simp [sgn]
    omega
  · rw [if_pos hph]
    unfold putN putsH
    simp [formH, fromH, manyH, hf]
    omega

theorem Here.cget12 (h : Here c L P i v p n) (k : CK c L P) (hph : p.phase = 12) (hk : p.kind = 2) (x : Value) :
    CRel c ((L.hap v x ⟨7, 0, 0, []⟩ (.slice none 0 0)).setP i { p with ticket := manyH 7 (-1) (L.hist v), phase := 14 }) (P.foc v { n with gets := n.gets + 1 } i (toPP { p with ticket := manyH 7 (-1) (L.hist v), phase := 14 })) := by
  have hf := h.isLeaf (by omega) (by omega)
  have hat := h.at'
  refine h.cleaf k (by omega) (by omega) x ⟨7, 0, 0, []⟩ (by simp) (h.get12 hph x) rfl rfl rfl (by simp) ?_ (fun a => ?_) ?_ (fun a => by have := h.q.kind; omega)
  · rw [if_pos hph, hk]
    unfold balH putsH
    simp [formH, fromH, manyH, hf, sgn]
    omega
  · rw [if_pos hph, hk, stP_no (p := p) (by omega) (by omega)]
    show ((pvals n.items).length : Int) + stP v { p with ticket := manyH 7 (-1) (L.hist v), phase := 14 } - _ - _ = _
    have : stP v { p with ticket := manyH 7 (-1) (L.hist v), phase := 14 } = -1 := by unfold stP; rw [if_pos hat, if_neg (by simp), if_pos rfl]
    rw [this]
    simp [sgn]
    omega
  · rw [if_pos hph]
    unfold putN putsH
    simp [formH, fromH, manyH, hf]

theorem Here.cstore13 (h : Here c L P i v p n) (k : CK c L P) (hph : p.phase = 13) (x : Value) (t : Nat) (ht : p.ticket = (t : Int)) :
    CRel c ((L.hap v x ⟨8, p.ticket, p.oval, []⟩ (.slice none 0 0)).setP i { p with phase := 19 }) (P.foc v { n with items := n.items.set t (1, p.oval) } i (toPP { p with phase := 19 })) := by
  have hf := h.isLeaf (by omega) (by omega)
  have hat := h.at'
  obtain ⟨htl, hw⟩ := h.store13 hph x t ht
  have hb := bal_over (L.hist v) ⟨8, p.ticket, p.oval, []⟩ (.slice none 0 0) (by simp) (by simp) (by simp)
  have h0 := h.rel.tk0 i h.hi (by rw [h.ep]; exact hph)
  rw [h.ep, h.toNat, ht] at h0
  have h01 : (n.items[t]).1 ≠ 1 := by
    have := (h.nr.leaf hf).2.2.2.it t
    rw [h0.2] at this
    intro e
    have hg : n.items.getD t (0, 0) = n.items[t] := by simp [List.getD_eq_getElem?_getD, List.getElem?_eq_getElem htl]
    rw [hg, if_pos e] at this
    simp at this
  refine h.cleaf k (by omega) (by omega) x ⟨8, p.ticket, p.oval, []⟩ (by simp) hw rfl rfl rfl (by simp) (by rw [hb.1, if_neg (by omega)]; omega) (fun a => ?_) (by rw [hb.2, if_neg (by omega)]; omega) (fun _ => by simp)
  rw [if_neg (by omega), stP_no (p := { p with phase := 19 }) (by simp) (by simp)]
  have hs := pvals_set_len n.items t htl (1, p.oval)
  rw [if_neg h01, if_pos rfl] at hs
  have : stP v p = 1 := by unfold stP; rw [if_pos hat, if_pos hph]
  rw [this]
  show ((pvals (n.items.set t (1, p.oval))).length : Int) + 0 - _ - 1 = 0
  omega

theorem Here.cfetch14 (h : Here c L P i v p n) (k : CK c L P) (hph : p.phase = 14) (x : Value) (t : Nat) (ht : p.ticket = (t : Int)) (htl : t < n.items.length) (h1 : (n.items[t]).1 = 1) :
    CRel c ((L.hap v x ⟨9, p.ticket, 0, []⟩ (.slice none 0 0)).setP i { p with val := (n.items[t]).2, phase := 19 }) (P.foc v { n with items := n.items.set t (2, 0) } i (toPP { p with val := (n.items[t]).2, phase := 19 })) := by
  have hat := h.at'
  have hb := bal_over (L.hist v) ⟨9, p.ticket, 0, []⟩ (.slice none 0 0) (by simp) (by simp) (by simp)
  refine h.cleaf k (by omega) (by omega) x ⟨9, p.ticket, 0, []⟩ (by simp) (h.fetch14 hph x t ht htl h1) rfl rfl rfl (by simp) (by rw [hb.1, if_neg (by omega)]; omega) (fun a => ?_) (by rw [hb.2, if_neg (by omega)]; omega) (fun _ => by simp)
  rw [if_neg (by omega), stP_no (p := { p with val := (n.items[t]).2, phase := 19 }) (by simp) (by simp)]
  have hs := pvals_set_len n.items t htl (2, 0)
  rw [if_pos h1, if_neg (by simp)] at hs
  have : stP v p = -1 := by unfold stP; rw [if_pos hat, if_neg (by omega), if_pos hph]
  rw [this]
  show ((pvals (n.items.set t (2, 0))).length : Int) + 0 - _ - -1 = 0
  omega
end

end Go.Proofs.YtjnmpejcegmkhaaGreatDoor
