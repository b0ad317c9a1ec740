/- The document's tree without the places of memory: what both trees have in common hangs on that alone. One Step of the document's tree as a plain function, and that it hangs on no place of memory. No statement of the seat is proved here. -/
import Derived.Test.YtjnmpejcegmkhaaGreatDoorCChg
namespace Go.Proofs.YtjnmpejcegmkhaaGreatDoor
open Go.RowKit

def erH (l : Hist) : Hist := l.map fun e => (e.1, Value.slice none 0 0)
theorem formH_er : ∀ l : Hist, formH (erH l) = formH l
  | [] => rfl
  | e :: r => by
    have := formH_er r
    simp only [erH, List.map_cons, formH] at *
    rw [this]
theorem fromH_er : ∀ l : Hist, (fromH (erH l)).1 = (fromH l).1
  | [] => rfl
  | e :: r => by
    have := fromH_er r
    simp only [erH, List.map_cons, fromH] at *
    split
    · rfl
    · exact this
theorem manyH_er (what n : Int) : ∀ l : Hist, manyH what n (erH l) = manyH what n l
  | [] => rfl
  | e :: r => by
    have := manyH_er what n r
    simp only [erH, List.map_cons, manyH] at *
    rw [this]
theorem widthH_er : ∀ l : Hist, widthH (erH l) = widthH l
  | [] => rfl
  | e :: r => by
    have := widthH_er r
    simp only [erH, List.map_cons, widthH] at *
    rw [this]
theorem laidH_er (t : Int) : ∀ l : Hist, laidH t (erH l) = laidH t l
  | [] => rfl
  | e :: r => by
    have := laidH_er t r
    simp only [erH, List.map_cons, laidH] at *
    rw [this]

section
variable {l l' : Hist}
theorem form_same (h : erH l' = erH l) : formH l' = formH l := by rw [← formH_er l', h, formH_er]
theorem from_same (h : erH l' = erH l) : (fromH l').1 = (fromH l).1 := by rw [← fromH_er l', h, fromH_er]
theorem many_same (h : erH l' = erH l) (what n : Int) : manyH what n l' = manyH what n l := by rw [← manyH_er what n l', h, manyH_er]
theorem width_same (h : erH l' = erH l) : widthH l' = widthH l := by rw [← widthH_er l', h, widthH_er]
theorem laid_same (h : erH l' = erH l) (t : Int) : laidH t l' = laidH t l := by rw [← laidH_er t l', h, laidH_er]
theorem puts_same (h : erH l' = erH l) : putsH l' = putsH l := by unfold putsH; rw [from_same h, many_same h]
theorem tog_same (h : erH l' = erH l) : togH l' = togH l := by unfold togH; rw [from_same h, many_same h]
theorem taken_same (h : erH l' = erH l) (t : Int) : takenH l' t = takenH l t := by unfold takenH; rw [many_same h]
theorem item_same (h : erH l' = erH l) (t : Int) : itemH l' t = itemH l t := by unfold itemH; rw [taken_same h, from_same h, laid_same h]
theorem items_same (h : erH l' = erH l) : itemsH l' = itemsH l := by
  unfold itemsH itemsTo
  rw [puts_same h]
  exact filterMap_range_congr _ _ _ fun t _ => item_same h t
theorem bal_same (h : erH l' = erH l) : balH l' = balH l := by unfold balH; rw [form_same h, puts_same h, many_same h]
theorem putN_same (h : erH l' = erH l) : putN l' = putN l := by unfold putN; rw [form_same h, puts_same h]
end

abbrev snds (ps : Prs) : List Pr := ps.map fun x => x.2

theorem snds_at {ps ps' : Prs} (h : snds ps' = snds ps) : ps'.length = ps.length ∧ ∀ i, (hi : i < ps.length) → (hi' : i < ps'.length) → (ps'[i]).2 = (ps[i]).2 := by
  have hl : ps'.length = ps.length := by have := congrArg List.length h; simpa using this
  refine ⟨hl, fun i hi hi' => ?_⟩
  have := congrArg (fun l => l[i]?) h
  simp only [snds, List.getElem?_map, List.getElem?_eq_getElem hi, List.getElem?_eq_getElem hi', Option.map_some] at this
  exact Option.some.inj this

theorem inside_same (u : Nat) : ∀ {ps ps' : Prs}, snds ps' = snds ps → insideL u ps' = insideL u ps
  | [], [], _ => rfl
  | [], _ :: _, h => by simp [snds] at h
  | _ :: _, [], h => by simp [snds] at h
  | x :: r, y :: s, h => by
    simp only [snds, List.map_cons, List.cons.injEq] at h
    simp only [insideL, h.1, inside_same u (ps := r) (ps' := s) h.2]
theorem shut_same (u : Int) : ∀ {ps ps' : Prs}, snds ps' = snds ps → shutL u ps' = shutL u ps
  | [], [], _ => rfl
  | [], _ :: _, h => by simp [snds] at h
  | _ :: _, [], h => by simp [snds] at h
  | x :: r, y :: s, h => by
    simp only [snds, List.map_cons, List.cons.injEq] at h
    simp only [shutL, h.1, shut_same u (ps := r) (ps' := s) h.2]
theorem live_same : ∀ {ps ps' : Prs}, snds ps' = snds ps → liveL ps' = liveL ps
  | [], [], _ => rfl
  | [], _ :: _, h => by simp [snds] at h
  | _ :: _, [], h => by simp [snds] at h
  | x :: r, y :: s, h => by
    simp only [snds, List.map_cons, List.cons.injEq] at h
    simp only [liveL, h.1, live_same (ps := r) (ps' := s) h.2]
theorem pot_same : ∀ {ps ps' : Prs}, snds ps' = snds ps → potL ps' = potL ps
  | [], [], _ => rfl
  | [], _ :: _, h => by simp [snds] at h
  | _ :: _, [], h => by simp [snds] at h
  | x :: r, y :: s, h => by
    simp only [snds, List.map_cons, List.cons.injEq] at h
    simp only [potL, h.1, pot_same (ps := r) (ps' := s) h.2]
theorem waits_same (v k : Int) : ∀ {ps ps' : Prs} (o : Nat), snds ps' = snds ps → waitsL v k ps' o = waitsL v k ps o
  | [], [], _, _ => rfl
  | [], _ :: _, _, h => by simp [snds] at h
  | _ :: _, [], _, h => by simp [snds] at h
  | x :: r, y :: s, o, h => by
    simp only [snds, List.map_cons, List.cons.injEq] at h
    simp only [waitsL, h.1, waits_same v k (ps := r) (ps' := s) (o + 1) h.2]
theorem sumP_same (f : Pr → Int) : ∀ {ps ps' : Prs}, snds ps' = snds ps → sumP f ps' = sumP f ps
  | [], [], _ => rfl
  | [], _ :: _, h => by simp [snds] at h
  | _ :: _, [], h => by simp [snds] at h
  | x :: r, y :: s, h => by
    simp only [snds, List.map_cons, List.cons.injEq] at h
    simp only [sumP, h.1, sumP_same f (ps := r) (ps' := s) h.2]
theorem kindAt_same {ps ps' : Prs} (h : snds ps' = snds ps) (m : Int) : kindAt ps' m = kindAt ps m := by
  obtain ⟨hl, hg⟩ := snds_at h
  unfold kindAt
  by_cases hm : m.toNat < ps.length
  · rw [List.getElem?_eq_getElem hm, List.getElem?_eq_getElem (by omega : m.toNat < ps'.length)]
    simp only [Option.map_some, hg m.toNat hm (by omega)]
  · rw [List.getElem?_eq_none (by omega : ps.length ≤ m.toNat), List.getElem?_eq_none (by omega : ps'.length ≤ m.toNat)]
theorem eP_snds {ps ps' : Prs} (h : snds ps' = snds ps) (u : Nat) (p : Pr) : eP ps' u p = eP ps u p := by
  unfold eP tokP wcP
  rw [kindAt_same h]

theorem SlotRel.same {ps ps' : Prs} {v k : Nat} {s : SL} (h : SlotRel ps v k s) (e : snds ps' = snds ps) : SlotRel ps' v k s := by
  obtain ⟨hl, hg⟩ := snds_at e
  rcases h with ⟨h0, h1⟩ | ⟨j, hj, a1, a2, a3, a4⟩
  · exact Or.inl ⟨h0, fun i hi' => by rw [hg i (by omega) hi']; exact h1 i (by omega)⟩
  · have hj' : j < ps'.length := by omega
    refine Or.inr ⟨j, hj', a1, by rw [hg j hj hj']; exact a2, fun i hi' hw => a3 i (by omega) (by rw [hg i (by omega) hi'] at hw; exact hw), ?_⟩
    rw [hg j hj hj', hl]
    exact a4

/-- The same but for the places of memory. -/
structure Same (L L' : Lay) : Prop where
  c : L'.c = L.c
  procs : snds L'.procs = snds L.procs
  len : L'.past.length = L.past.length
  hist : ∀ u, erH (L'.hist u) = erH (L.hist u)
  tot : totL L'.past = totL L.past

theorem WRel.same {c : Conf} {L L' : Lay} {P : PLay} (h : WRel c L P) (s : Same L L') : WRel c L' P := by
  obtain ⟨hl, hg⟩ := snds_at s.procs
  refine ⟨h.may, s.c.trans h.cL, h.cP, by rw [s.len]; exact h.len, by rw [form_same (s.hist 0)]; exact h.hist0, h.plen, ?_, by rw [hl]; exact h.np, by rw [live_same s.procs]; exact h.full, ?_, ?_, ?_, ?_, ?_, ?_, by rw [s.tot, pot_same s.procs]; exact h.pot, ?_, ?_, h.isz, by rw [form_same (s.hist 1)]; exact h.root⟩
  · rw [h.procs]
    have := congrArg (List.map toPP) s.procs
    simp only [snds, List.map_map] at this
    exact this.symm
  · intro v h1 hv
    rw [s.len] at hv
    have n := h.nodes v h1 hv
    have e := s.hist v
    refine ⟨by rw [form_same e]; exact n.form, by rw [form_same e]; exact n.there, fun h3 => ?_, fun hf => ?_, fun hf => ?_⟩
    · rw [form_same e] at h3
      rw [inside_same v s.procs]
      exact n.inside h3
    · rw [form_same e] at hf
      obtain ⟨a1, a2, a3, a4, a5, a6⟩ := n.inn hf
      exact ⟨a1, by rw [tog_same e]; exact a2, by rw [width_same e]; exact a3, a4, a5, fun k hk => (a6 k hk).same s.procs⟩
    · rw [form_same e] at hf
      obtain ⟨a1, a2, a3, a4⟩ := n.leaf hf
      exact ⟨a1, by rw [puts_same e]; exact a2, by rw [many_same e]; exact a3, ⟨fun x => by rw [puts_same e]; exact a4.len x, a4.emp, fun t => by rw [item_same e]; exact a4.it t, fun t => by rw [taken_same e]; exact a4.tk t⟩⟩
  · intro v h1 h2
    rw [s.len] at h1
    exact h.past v h1 h2
  · intro i hi'
    have hi : i < L.procs.length := by omega
    rw [hg i hi hi', s.len, hl]
    have q := h.qs i hi
    exact ⟨q.phase, q.kind, q.done, fun a => by obtain ⟨u, b1, b2, b3, b4⟩ := q.live a; exact ⟨u, b1, b2, b3, by rw [form_same (s.hist u)]; exact b4⟩, fun a b => by rw [form_same (s.hist _)]; exact q.inner a b, fun a b => by rw [form_same (s.hist _)]; exact q.leaf a b, q.slot, q.wide, q.mind, q.pat, q.tick.1, q.tick.2.1, fun a => by rw [puts_same (s.hist _)]; exact q.tick.2.2 a⟩
  · intro v h1 hv hf
    rw [s.len] at hv ⊢
    rw [form_same (s.hist v)] at hf
    rw [form_same (s.hist _), form_same (s.hist _)]
    exact h.kids v h1 hv hf
  · intro v h1 hv hf
    rw [s.len] at hv
    rw [form_same (s.hist v)] at hf
    rw [form_same (s.hist _)]
    exact h.par v h1 hv hf
  · intro v hv
    rw [s.len] at hv
    rw [from_same (s.hist v)]
    exact h.fn v hv
  · intro i hi' h13
    have hi : i < L.procs.length := by omega
    rw [hg i hi hi'] at h13 ⊢
    rw [taken_same (s.hist _), item_same (s.hist _)]
    exact h.tk0 i hi h13
  · intro i j hi' hj' a b d e
    have hi : i < L.procs.length := by omega
    have hj : j < L.procs.length := by omega
    rw [hg i hi hi'] at a d e
    rw [hg j hj hj'] at b d e
    exact h.uniq i j hi hj a b d e

theorem CInv.same {c : Conf} {L L' : Lay} {d : Nat → Int} (h : CInv c L.procs L.hist L.past.length d) (s : Same L L') : CInv c L'.procs L'.hist L'.past.length d := by
  obtain ⟨hl, hg⟩ := snds_at s.procs
  rw [s.len]
  refine ⟨fun i hi' => ?_, fun i j hi' hj' a b x y z => ?_, fun i j hi' hj' a b => ?_, fun v h2 hv hf => ?_, fun u h1 hu hf => ?_, fun hk u h1 hu hf => ?_, ?_, fun hk u hu => by rw [many_same (s.hist u)]; exact h.nog hk u hu⟩
  · rw [hg i (by omega) hi']
    have q := h.cq i (by omega)
    exact ⟨q.kinds, q.walk, q.chg, fun a b => by rw [form_same (s.hist _)]; exact q.gform a b⟩
  · rw [hg i (by omega) hi'] at a b z
    rw [hg j (by omega) hj'] at x y z
    exact h.gate i j (by omega) (by omega) a b x y z
  · rw [hg i (by omega) hi'] at a b ⊢
    rw [hg j (by omega) hj'] at b ⊢
    exact h.calm i j (by omega) (by omega) a b
  · rw [form_same (s.hist v)] at hf
    rw [form_same (s.hist _)]
    exact h.par v h2 hv hf
  · rw [form_same (s.hist u)] at hf
    have e := h.even u h1 hu hf
    unfold evenS at e ⊢
    rw [tog_same (s.hist u), ← e, sumP_same _ s.procs]
    congr 1
    · exact sumN_congr _ _ _ fun w _ => by rw [bal_same (s.hist w)]
    · exact sumP_congr _ _ _ fun i hi => eP_snds s.procs u _
  · rw [form_same (s.hist u)] at hf
    rw [items_same (s.hist u), sumP_same _ s.procs, bal_same (s.hist u)]
    exact h.lies hk u h1 hu hf
  · rw [sumP_same _ s.procs, sumN_congr _ (fun w => putN (L.hist w)) _ fun w _ => putN_same (s.hist w)]
    exact h.sum

theorem CRel.same {c : Conf} {L L' : Lay} {P : PLay} (h : CRel c L P) (s : Same L L') : CRel c L' P :=
  ⟨h.rel.same s, ⟨fun v h1 hv hf => by rw [s.len] at hv; rw [form_same (s.hist v)] at hf; rw [shut_same _ s.procs]; exact h.ck.si.shut v h1 hv hf⟩, h.ck.ci.same s⟩

abbrev nilV : Value := .slice none 0 0

/-- What process q of tree L (its steps counted) does at node v, in the phases that change no history. -/
def lmove (L : Lay) (v : Nat) (q : Pr) (draw : Int) : Pr :=
  if q.phase = 0 then { q with phase := 1 }
  else if q.phase = 1 then
    if shutL v L.procs = true then { q with phase := 2 }
    else if q.kind < 3 then { q with phase := if formH (L.hist v) = 1 then 3 else 12 }
    else if formH (L.hist v) = 1 then { q with node := ((towards 6 q.onode.toNat v : Nat) : Int), phase := if towards 6 q.onode.toNat v = q.onode.toNat then 15 else 0 }
    else { q with val := 2, phase := 19 }
  else if q.phase = 2 then { q with phase := 0 }
  else if q.phase = 3 then { q with wide := widthH (L.hist v), slot := draw % widthH (L.hist v), phase := 4 }
  else if q.phase = 4 then
    if waitsL v q.slot L.procs 0 < 0 then { q with phase := 5 }
    else match L.procs[(waitsL v q.slot L.procs 0).toNat]? with
      | some y => if 0 ≤ y.2.met then { q with phase := 11 } else { q with mind := waitsL v q.slot L.procs 0, phase := 8 }
      | none => q
  else if q.phase = 5 then
    if waitsL v q.slot L.procs 0 < 0 then { q with phase := 6, met := -1, pat := L.c.spin } else { q with phase := 9 }
  else if q.phase = 6 then waitPr q
  else if q.phase = 7 then
    match L.procs[q.met.toNat]? with
      | some y => settledPr { q with met := -1 } y.2 0
      | none => q
  else if q.phase = 15 then shutCh L v q
  else if q.phase = 16 then drainCh L v q
  else if q.phase = 18 then upPr { q with val := 3 }
  else if q.phase = 19 then upPr q
  else q

/-- One Step. -/
def lstep (L : Lay) (i : Nat) (draw : Int) : Lay :=
  match L.procs[i]? with
  | none => L
  | some x =>
    let q := incPr x.2
    let v := q.node.toNat
    let M := L.setP i q
    if q.phase = 8 then
      match L.procs[q.mind.toNat]? with
      | none => M
      | some y => if meets M q y.2 = true then (M.setP q.mind.toNat { y.2 with met := i }).setP i (settledPr q y.2 1) else M.setP i { q with phase := 9 }
    else if q.phase = 9 then (M.hap v nilV ⟨5, clip L.c.width (2 * q.wide), 0, []⟩ nilV).setP i { q with phase := 11 }
    else if q.phase = 10 then (M.hap v nilV ⟨5, clip L.c.width (q.wide / 2), 0, []⟩ nilV).setP i { q with phase := 11 }
    else if q.phase = 11 then (M.hap v nilV ⟨4, 0, 0, []⟩ nilV).setP i { q with node := 2 * q.node + (if q.kind = 2 then (togH (L.hist v) + 1) % 2 else togH (L.hist v)), phase := 0 }
    else if q.phase = 12 then
      if q.kind = 0 then (M.hap v nilV ⟨6, 0, 0, []⟩ nilV).setP i { q with val := rank v + putsH (L.hist v) * 2 ^ Nat.log2 v, phase := 19 }
      else if q.kind = 1 then (M.hap v nilV ⟨6, 0, 0, []⟩ nilV).setP i { q with ticket := putsH (L.hist v), phase := 13 }
      else (M.hap v nilV ⟨7, 0, 0, []⟩ nilV).setP i { q with ticket := manyH 7 (-1) (L.hist v), phase := 14 }
    else if q.phase = 13 then
      if roomyH L.c v (L.hist v) q.ticket = true then (M.hap v nilV ⟨8, q.ticket, q.oval, []⟩ nilV).setP i { q with phase := 19 } else M
    else if q.phase = 14 then
      match itemH (L.hist v) q.ticket with
      | some x => (M.hap v nilV ⟨9, q.ticket, 0, []⟩ nilV).setP i { q with val := x, phase := 19 }
      | none => M
    else if q.phase = 17 then
      if q.kind = 4 then (M.unfolded v nilV nilV nilV nilV nilV).setP i (upPr { q with val := 1 })
      else if formH (L.hist (2 * v)) = 1 ∨ formH (L.hist (2 * v + 1)) = 1 then M.setP i (upPr { q with val := 4 })
      else (M.folded v nilV nilV nilV nilV).setP i (upPr { q with val := 1 })
    else M.setP i (lmove M v q draw)

theorem Same.refl (L : Lay) : Same L L := ⟨rfl, rfl, rfl, fun _ => rfl, rfl⟩
theorem Same.symm {L L' : Lay} (h : Same L L') : Same L' L := ⟨h.c.symm, h.procs.symm, h.len.symm, fun u => (h.hist u).symm, h.tot.symm⟩
theorem Same.trans {L L' L'' : Lay} (h : Same L L') (k : Same L' L'') : Same L L'' := ⟨k.c.trans h.c, k.procs.trans h.procs, k.len.trans h.len, fun u => (k.hist u).trans (h.hist u), k.tot.trans h.tot⟩

theorem snds_set (ps : Prs) (i : Nat) (a : Nat) (p : Pr) : snds (ps.set i (a, p)) = (snds ps).set i p := by simp [snds, List.map_set]
theorem Same.setP {L L' : Lay} (h : Same L L') (i : Nat) (p : Pr) : Same (L.setP i p) (L'.setP i p) :=
  ⟨h.c, by show snds (L'.procs.set i _) = snds (L.procs.set i _); rw [snds_set, snds_set, h.procs], h.len, h.hist, h.tot⟩
theorem Same.setP2 (L : Lay) (i : Nat) (p p' : Pr) : Same (L.setP i p') ((L.setP i p).setP i p') :=
  ⟨rfl, by show snds ((L.procs.set i _).set i _) = snds (L.procs.set i _); rw [snds_set, snds_set, snds_set, List.set_set], rfl, fun _ => rfl, rfl⟩
theorem Same.hap {L L' : Lay} (h : Same L L') (v : Nat) (x x' : Value) (ev : Ev) (iv iv' : Value) : Same (L.hap v x ev iv) (L'.hap v x' ev iv') := by
  by_cases hv0 : v < L.past.length
  case neg =>
    have e1 : L.hap v x ev iv = L := by show ({ L with past := _ } : Lay) = L; rw [List.set_eq_of_length_le (by omega)]
    have e2 : L'.hap v x' ev iv' = L' := by show ({ L' with past := _ } : Lay) = L'; rw [List.set_eq_of_length_le (by have := h.len; omega)]
    rw [e1, e2]
    exact h
  have hv := hv0
  have hv' : v < L'.past.length := by rw [h.len]; exact hv
  refine ⟨h.c, h.procs, by simp [h.len], fun u => ?_, ?_⟩
  · rw [hist_hap L v u x ev iv hv, hist_hap L' v u x' ev iv' hv']
    split
    · have := h.hist v
      simp only [erH, List.map_cons] at *
      rw [this]
    · exact h.hist u
  · rw [totL_hap1 L v hv, totL_hap1 L' v hv', h.tot]

theorem lmove_same {L L' : Lay} (h : Same L L') (v : Nat) (q : Pr) (draw : Int) : lmove L' v q draw = lmove L v q draw := by
  obtain ⟨hl, hg⟩ := snds_at h.procs
  have hat : ∀ k : Nat, (L'.procs[k]?).map (fun x => x.2) = (L.procs[k]?).map (fun x => x.2) := by
    intro k
    by_cases hk : k < L.procs.length
    · rw [List.getElem?_eq_getElem hk, List.getElem?_eq_getElem (by omega : k < L'.procs.length)]
      simp only [Option.map_some, hg k hk (by omega)]
    · rw [List.getElem?_eq_none (by omega : L.procs.length ≤ k), List.getElem?_eq_none (by omega : L'.procs.length ≤ k)]
  have m : ∀ (k : Nat) (f : Pr → Pr), (match L'.procs[k]? with | some y => f y.2 | none => q) = (match L.procs[k]? with | some y => f y.2 | none => q) := by
    intro k f
    have := hat k
    cases h1 : L'.procs[k]? <;> cases h2 : L.procs[k]? <;> simp [h1, h2] at this ⊢
    rw [this]
  unfold lmove shutCh drainCh
  rw [shut_same _ h.procs, shut_same _ h.procs, form_same (h.hist v), width_same (h.hist v), waits_same _ _ 0 h.procs, inside_same v h.procs, h.c, m _ (fun y => if 0 ≤ y.met then { q with phase := 11 } else { q with mind := waitsL v q.slot L.procs 0, phase := 8 }), m _ (fun y => settledPr { q with met := -1 } y 0)]

theorem same_ite {p : Prop} [Decidable p] {a b a' b' : Lay} (h1 : p → Same a a') (h2 : ¬ p → Same b b') : Same (if p then a else b) (if p then a' else b') := by
  by_cases hp : p
  · rw [if_pos hp, if_pos hp]; exact h1 hp
  · rw [if_neg hp, if_neg hp]; exact h2 hp

theorem snd_at {L L' : Lay} (h : Same L L') (k : Nat) : (L.procs[k]? = none ∧ L'.procs[k]? = none) ∨ ∃ x y, L.procs[k]? = some x ∧ L'.procs[k]? = some y ∧ y.2 = x.2 := by
  obtain ⟨hl, hg⟩ := snds_at h.procs
  by_cases hk : k < L.procs.length
  · exact Or.inr ⟨_, _, List.getElem?_eq_getElem hk, List.getElem?_eq_getElem (by omega : k < L'.procs.length), hg k hk (by omega)⟩
  · exact Or.inl ⟨List.getElem?_eq_none (by omega), List.getElem?_eq_none (by omega)⟩

theorem lstep_same {L L' : Lay} (h : Same L L') (i : Nat) (draw : Int) : Same (lstep L i draw) (lstep L' i draw) := by
  unfold lstep
  rcases snd_at h i with ⟨e1, e2⟩ | ⟨x, y, e1, e2, e3⟩
  · rw [e1, e2]; exact h
  · rw [e1, e2]
    simp only [e3]
    have M := h.setP i (incPr x.2)
    have hv := h.hist (incPr x.2).node.toNat
    have h0 := h.hist (2 * (incPr x.2).node.toNat)
    have h1 := h.hist (2 * (incPr x.2).node.toNat + 1)
    have m0 := M.hist (2 * (incPr x.2).node.toNat)
    have m1 := M.hist (2 * (incPr x.2).node.toNat + 1)
    have mv := M.hist (incPr x.2).node.toNat
    rw [h.c, tog_same hv, puts_same hv, many_same hv, item_same hv, form_same h0, form_same h1, lmove_same M, show roomyH L.c (incPr x.2).node.toNat (L'.hist (incPr x.2).node.toNat) (incPr x.2).ticket = roomyH L.c (incPr x.2).node.toNat (L.hist (incPr x.2).node.toNat) (incPr x.2).ticket from by unfold roomyH; rw [taken_same hv]]
    refine same_ite (fun _ => ?_) (fun _ => same_ite (fun _ => (M.hap _ _ _ _ _ _).setP _ _) (fun _ => same_ite (fun _ => (M.hap _ _ _ _ _ _).setP _ _) (fun _ => same_ite (fun _ => (M.hap _ _ _ _ _ _).setP _ _) (fun _ => same_ite (fun _ => same_ite (fun _ => (M.hap _ _ _ _ _ _).setP _ _) (fun _ => same_ite (fun _ => (M.hap _ _ _ _ _ _).setP _ _) (fun _ => (M.hap _ _ _ _ _ _).setP _ _))) (fun _ => same_ite (fun _ => same_ite (fun _ => (M.hap _ _ _ _ _ _).setP _ _) (fun _ => M)) (fun _ => same_ite (fun _ => ?_) (fun _ => same_ite (fun _ => same_ite (fun _ => ?_) (fun _ => same_ite (fun _ => M.setP _ _) (fun _ => ?_))) (fun _ => M.setP _ _))))))))
    · rcases snd_at h (incPr x.2).mind.toNat with ⟨a1, a2⟩ | ⟨x', y', a1, a2, a3⟩
      · rw [a1, a2]; exact M
      · rw [a1, a2]
        simp only [a3]
        have : meets (L'.setP i (incPr x.2)) (incPr x.2) x'.2 = meets (L.setP i (incPr x.2)) (incPr x.2) x'.2 := by unfold meets; rw [waits_same _ _ 0 M.procs]
        rw [this]
        exact same_ite (fun _ => (M.setP _ _).setP _ _) (fun _ => M.setP _ _)
    · cases itemH (L.hist (incPr x.2).node.toNat) (incPr x.2).ticket with
      | none => exact M
      | some z => exact (M.hap _ _ _ _ _ _).setP _ _
    · refine Same.setP ?_ _ _
      have e : unfN (L'.setP i (incPr x.2)) (incPr x.2).node.toNat = unfN (L.setP i (incPr x.2)) (incPr x.2).node.toNat := by unfold unfN; rw [M.c, puts_same mv, items_same mv]
      show Same (((Lay.hap _ _ _ _ _).hap _ _ _ _).hap _ _ _ _) (((Lay.hap _ _ _ _ _).hap _ _ _ _).hap _ _ _ _)
      rw [e, items_same mv]
      exact ((M.hap _ _ _ _ _ _).hap _ _ _ _ _ _).hap _ _ _ _ _ _
    · refine Same.setP ?_ _ _
      have e : foldN (L'.setP i (incPr x.2)) (incPr x.2).node.toNat = foldN (L.setP i (incPr x.2)) (incPr x.2).node.toNat := by unfold foldN; rw [M.c, puts_same m0, puts_same m1, items_same m0, items_same m1]
      show Same (((Lay.hap _ _ _ _ _).hap _ _ _ _).hap _ _ _ _) (((Lay.hap _ _ _ _ _).hap _ _ _ _).hap _ _ _ _)
      rw [e, items_same m0, items_same m1]
      exact ((M.hap _ _ _ _ _ _).hap _ _ _ _ _ _).hap _ _ _ _ _ _

end Go.Proofs.YtjnmpejcegmkhaaGreatDoor
