/- What a step of the program may write: a node and a process. Contracts of the program's small steps: descend, leave, look, turn, modulo, lookAtSlot, wait, wider, narrower. Contracts of the program's steps at a slot: lookAtSlot, wait, wider, narrower, settle, claim, meet. Contracts of the program's claim, meet and stepAtSlot. Contracts of the program's stepAtSlot, phase by phase. What a step of the program may write in a leaf's items; contracts of room, hasRoom. Contracts of the program's takeTicket, hasRoom, store, fetch. Contracts of the program's hasRoom, store, fetch. Contracts of the program's fetch. Contracts of the program's stepAtLeaf, step and Step. No statement of the seat is proved here. -/
import Derived.Test.YtjnmpejcegmkhaaGreatDoorProgB
import Derived.Laws.OwnMore
import Derived.Test.YtjnmpejcegmkhaaGreatDoorRefStA
import Derived.Deep.AppendLies
namespace Go.Proofs.YtjnmpejcegmkhaaGreatDoor
open Go.RowKit

theorem ChgT.cell {B : Nat} {T : List TypeId} {w : World} {b : Nat} {cs : Array Value} {Ty : TypeId} (hb : w.heap[b]? = some (.cells cs Ty (0, 0))) (hB : B ≤ b) (hT : Ty ∈ T) (j : Nat) (x : Value) : ChgT B T w (w.setCell ⟨b, j, none⟩ x) := by
  refine ⟨rfl, rfl, rfl, by simp [World.setCell], fun k _ hc => Below.heap_setCell _ _ _ _ ?_⟩
  intro e
  subst e
  rcases hc with hc | hc
  · exact absurd hc (by show ¬ _ < _; simp; omega)
  · exact hc _ _ _ hb hT

theorem flat_set {α : Type} (f : α → List Value) (s : Nat) (hs : ∀ x, (f x).length = s) (l : List α) (k : Nat) (hk : k < l.length) (j : Nat) (hj : j < s) (x : Value) (y : α) (he : f y = (f l[k]).set j x) : (l.flatMap f).set (k * s + j) x = (l.set k y).flatMap f := by
  obtain ⟨h1, h2⟩ := flat_split f l k hk y
  have hl : ((l.take k).flatMap f).length = k * s := by rw [flat_length f s hs, List.length_take, Nat.min_eq_left (by omega)]
  rw [h1, h2, List.set_append_right _ _ (by omega), hl, show k * s + j - k * s = j from by omega, List.set_append_left _ _ (by rw [hs]; exact hj), he]

theorem PRep.setN {w : World} {B : Nat} {L : PLay} (h : PRep w B L) (v : Nat) (hv : v < L.nodes.length) (j : Nat) (hj : j < 20) (x : Value) (n' : PN) (he : pnCells n' = (pnCells L.nodes[v]).set j x) (hiv : n'.iv = (L.nodes[v]).iv) (hit : n'.items = (L.nodes[v]).items) :
    PRep (w.setCell ⟨L.tb, 8 + v * 21 + j, none⟩ x) B { L with nodes := L.nodes.set v n' } where
  tree := by
    rw [nb_set h.tree]
    congr 2
    have h1 : (pConf L.c).length = 8 := rfl
    show (pTree L).toArray.setIfInBounds _ _ = _
    rw [List.setIfInBounds_toArray]
    congr 1
    show (pConf L.c ++ (L.nodes.flatMap pnCells ++ [L.pv])).set (8 + v * 21 + j) x = pConf L.c ++ ((L.nodes.set v n').flatMap pnCells ++ [L.pv])
    rw [List.set_append_right _ _ (by omega), List.set_append_left _ _ (by rw [flat_length pnCells 21 pn_len]; omega), h1, show 8 + v * 21 + j - 8 = v * 21 + j from by omega, flat_set pnCells 21 pn_len L.nodes v hv j (by omega) x n' he]
  treeB := h.treeB
  len := by simpa using h.len
  prow := ownsRow_setCell_type h.prow h.tree (by decide) _ _
  items := fun u hu' => by
    have hu : u < L.nodes.length := by simpa using hu'
    by_cases e : u = v
    · subst e
      simp only [List.getElem_set_self]
      rw [hiv, hit]
      exact ownsRow_setCell_type (h.items u hu) h.tree (by decide) _ _
    · simp only [List.getElem_set_ne (Ne.symm e)]
      exact ownsRow_setCell_type (h.items u hu) h.tree (by decide) _ _
  ind := fun a b ha hb g e1 e2 => by
    have ha' : a < L.nodes.length := by simpa using ha
    have hb' : b < L.nodes.length := by simpa using hb
    have key : ∀ u, (hu : u < L.nodes.length) → (hu' : u < (L.nodes.set v n').length) → ((L.nodes.set v n')[u]).iv = (L.nodes[u]).iv := by
      intro u hu hu'
      by_cases e : u = v
      · subst e; simp only [List.getElem_set_self]; exact hiv
      · simp only [List.getElem_set_ne (Ne.symm e)]
    rw [key a ha' ha] at e1
    rw [key b hb' hb] at e2
    exact h.ind a b ha' hb' g e1 e2

theorem PRep.setQ {w : World} {B : Nat} {L : PLay} (h : PRep w B L) {g cap : Nat} (hpv : L.pv = .slice (some ⟨g, 0, none⟩) L.procs.length cap) (i : Nat) (hi : i < L.procs.length) (j : Nat) (hj : j < 11) (x : Value) (q' : PP) (he : ppCells q' = (ppCells L.procs[i]).set j x) :
    PRep (w.setCell ⟨g, i * 11 + j, none⟩ x) B { L with procs := L.procs.set i q' } := by
  have hr := h.prow
  rw [hpv] at hr
  obtain ⟨cur, hb⟩ := ownsRow_block hr (g := g) rfl
  obtain ⟨hr', _⟩ := hr.stored (i * 11 + j) x
  rw [flat_set ppCells 11 pp_len L.procs i hi j hj x q' he] at hr'
  refine ⟨?_, h.treeB, h.len, ?_, fun v hv => ownsRow_setCell_type (h.items v hv) hb (by decide) _ _, h.ind⟩
  · show (w.setCell _ x).heap[L.tb]? = _
    rw [Below.heap_setCell _ _ _ _ (by intro e; have := h.tree; rw [e] at this; simp only at this; rw [hb] at this; simp at this)]
    exact h.tree
  · show (w.setCell _ x).ownsRow B _ 11 L.pv (L.procs.set i q').length _
    rw [List.length_set, hpv]
    exact hr'

abbrev PLay.foc (L : PLay) (v : Nat) (n : PN) (i : Nat) (q : PP) : PLay := { L with nodes := L.nodes.set v n, procs := L.procs.set i q }

/-- In the midst of a step: node v is n, process i is q, all else is as it was. -/
structure PF (w : World) (B : Nat) (L : PLay) (v i g : Nat) (W : World) (n : PN) (q : PP) : Prop where
  rep : PRep W B (L.foc v n i q)
  chg : ChgT B [61, 96, 148] w W
  hv : v < L.nodes.length
  hi : i < L.procs.length
  hg : ∃ cap, L.pv = .slice (some ⟨g, 0, none⟩) L.procs.length cap ∧ L.procs.length ≤ cap ∧ cap ≤ maxLen

theorem PF.start {w : World} {B : Nat} {L : PLay} (h : PRep w B L) {v : Nat} (hv : v < L.nodes.length) {i : Nat} (hi : i < L.procs.length) : ∃ g, PF w B L v i g w L.nodes[v] L.procs[i] := by
  obtain ⟨ao, cap, e1, q1, q2, q3, hx⟩ := h.pp_at
  obtain ⟨g, rfl, _⟩ := hx i hi
  exact ⟨g, by unfold PLay.foc; rw [List.set_getElem_self, List.set_getElem_self]; exact h, ChgT.of_below (Below.refl _ _), hv, hi, cap, e1, q1, q3⟩

section
variable {w : World} {B : Nat} {L : PLay} {v i g : Nat} {W : World} {n : PN} {q : PP}

theorem PF.node_at (_h : PF w B L v i g W n q) (hv' : v < (L.foc v n i q).nodes.length) : (L.foc v n i q).nodes[v] = n := by simp
theorem PF.proc_at (_h : PF w B L v i g W n q) (hi' : i < (L.foc v n i q).procs.length) : (L.foc v n i q).procs[i] = q := by simp

theorem PF.ncell (h : PF w B L v i g W n q) (j : Nat) (hj : j < 21) : W.cell? ⟨L.tb, 8 + v * 21 + j, none⟩ = (pnCells n)[j]? := by
  have hv' : v < (L.foc v n i q).nodes.length := by simpa [PLay.foc] using h.hv
  have := h.rep.ncell v hv' j hj
  rw [h.node_at hv'] at this
  exact this

theorem PF.pcell (h : PF w B L v i g W n q) (j : Nat) (hj : j < 11) : W.cell? ⟨g, i * 11 + j, none⟩ = (ppCells q)[j]? := by
  have hi' : i < (L.foc v n i q).procs.length := by simpa [PLay.foc] using h.hi
  obtain ⟨ao, cap, e1, _, _, _, hx⟩ := h.rep.pp_at
  obtain ⟨g', e2, f⟩ := hx i hi'
  obtain ⟨cap', e3, _⟩ := h.hg
  have e4 : L.pv = .slice ao (L.foc v n i q).procs.length cap := e1
  rw [e3, e2] at e4
  have : g = g' := by simp at e4; exact e4.1
  subst this
  have := f j hj
  rw [h.proc_at hi'] at this
  exact this

theorem PF.other (h : PF w B L v i g W n q) (k : Nat) (hk : k < L.procs.length) (hne : k ≠ i) (j : Nat) (hj : j < 11) : W.cell? ⟨g, k * 11 + j, none⟩ = (ppCells L.procs[k])[j]? := by
  have hk' : k < (L.foc v n i q).procs.length := by simpa [PLay.foc] using hk
  obtain ⟨ao, cap, e1, _, _, _, hx⟩ := h.rep.pp_at
  obtain ⟨g', e2, f⟩ := hx k hk'
  obtain ⟨cap', e3, _⟩ := h.hg
  have e4 : L.pv = .slice ao (L.foc v n i q).procs.length cap := e1
  rw [e3, e2] at e4
  have : g = g' := by simp at e4; exact e4.1
  subst this
  have := f j hj
  rw [show (L.foc v n i q).procs[k] = L.procs[k] from by show (L.procs.set i q)[k] = _; rw [List.getElem_set_ne (Ne.symm hne)]] at this
  exact this

theorem PF.blkN (h : PF w B L v i g W n q) : W.heap[L.tb]? = some (.cells (pTree (L.foc v n i q)).toArray 61 (0, 0)) := h.rep.tree
theorem PF.blkQ (h : PF w B L v i g W n q) : ∃ cur, W.heap[g]? = some (.cells cur 96 (0, 0)) ∧ B ≤ g := by
  obtain ⟨cap, e, _⟩ := h.hg
  have hr := h.rep.prow
  have e' : (L.foc v n i q).pv = .slice (some ⟨g, 0, none⟩) L.procs.length cap := e
  rw [e'] at hr
  obtain ⟨cur, hb⟩ := ownsRow_block hr (g := g) rfl
  exact ⟨cur, hb, (hr.lt g rfl).1⟩
theorem PF.fzN (h : PF w B L v i g W n q) (k : Nat) : W.frozen? ⟨L.tb, k, none⟩ = false := (nb_facts h.blkN).2 k
theorem PF.fzQ (h : PF w B L v i g W n q) (k : Nat) : W.frozen? ⟨g, k, none⟩ = false := by
  obtain ⟨cur, hb, _⟩ := h.blkQ
  exact (nb_facts hb).2 k
theorem PF.ltN (h : PF w B L v i g W n q) : L.tb < W.heap.size := h.rep.size
theorem PF.ne (h : PF w B L v i g W n q) : L.tb ≠ g := by
  intro e
  obtain ⟨cur, hb, _⟩ := h.blkQ
  have := h.blkN
  rw [e, hb] at this
  simp at this

theorem PF.setN (h : PF w B L v i g W n q) (j : Nat) (hj : j < 20) (x : Value) (n' : PN) (he : pnCells n' = (pnCells n).set j x) (hiv : n'.iv = n.iv) (hit : n'.items = n.items) : PF w B L v i g (W.setCell ⟨L.tb, 8 + v * 21 + j, none⟩ x) n' q := by
  have hv' : v < (L.foc v n i q).nodes.length := by simpa [PLay.foc] using h.hv
  have hn := h.node_at hv'
  refine ⟨?_, h.chg.trans (ChgT.cell h.blkN h.rep.treeB (by simp) _ _), h.hv, h.hi, h.hg⟩
  have := h.rep.setN v hv' j hj x n' (by rw [hn]; exact he) (by rw [hn]; exact hiv) (by rw [hn]; exact hit)
  simp only [List.set_set] at this
  exact this

theorem PF.setQ (h : PF w B L v i g W n q) (j : Nat) (hj : j < 11) (x : Value) (q' : PP) (he : ppCells q' = (ppCells q).set j x) : PF w B L v i g (W.setCell ⟨g, i * 11 + j, none⟩ x) n q' := by
  have hi' : i < (L.foc v n i q).procs.length := by simpa [PLay.foc] using h.hi
  have hq := h.proc_at hi'
  obtain ⟨cap, e, c1, c2⟩ := h.hg
  obtain ⟨cur, hb, hB⟩ := h.blkQ
  refine ⟨?_, h.chg.trans (ChgT.cell hb hB (by simp) _ _), h.hv, h.hi, h.hg⟩
  have hpv : (L.foc v n i q).pv = .slice (some ⟨g, 0, none⟩) (L.foc v n i q).procs.length cap := by simpa [PLay.foc] using e
  have := h.rep.setQ hpv i hi' j hj x q' (by rw [hq]; exact he)
  simp only [List.set_set] at this
  exact this

theorem PF.below (h : PF w B L v i g W n q) {W' : World} (hb : Below W.heap.size W W') : PF w B L v i g W' n q :=
  ⟨h.rep.below hb, h.chg.trans (ChgT.of_below hb), h.hv, h.hi, h.hg⟩
theorem PF.drew (h : PF w B L v i g W n q) : PF w B L v i g W.drew n q := h.below (Below.refl _ _).drew
end

section
variable {w : World} {B : Nat} {L : PLay} {v i g : Nat} {W : World} {n : PN} {q : PP}

abbrev downPP (q : PP) (b : Int) : PP := { q with node := 2 * q.node + b, phase := 0 }

set_option maxHeartbeats 1000000 in
theorem descend_c (h : PF w B L v i g W n q) (hn0 : 0 ≤ q.node) (hn : q.node ≤ 1000000) (b : Int) (hb0 : 0 ≤ b) (hb : b ≤ 1) :
    Calls Tryz.prog 100 #[.pointer (some ⟨g, i * 11, none⟩), I b] W fun e w' => e = .returned (.tuple #[]) ∧ PF w B L v i g w' n (downPP q b) := by
  have c3 := h.pcell 3 (by omega)
  have c4 := h.pcell 4 (by omega)
  have fz := h.fzQ
  simp only [ppCells, List.getElem?_cons_succ, List.getElem?_cons_zero] at c3 c4
  have HE : Hid (PF w B L v i g ((W.setCell ⟨g, i * 11 + 4, none⟩ (I (2 * q.node + b))).setCell ⟨g, i * 11 + 3, none⟩ (I 0)) n (downPP q b)) :=
    (h.setQ 4 (by omega) (I (2 * q.node + b)) { q with node := 2 * q.node + b } rfl).setQ 3 (by omega) (I 0) (downPP q b) rfl
  clear h
  go_enter Tryz.func100, Tryz.ntmps100
  go_wp2
  go_end0
  exact ⟨rfl, HE.out⟩

abbrev leavePP (q : PP) : PP := { q with node := q.node / 2, phase := if q.node / 2 = 0 then 20 else 19 }

set_option maxHeartbeats 1000000 in
theorem leave_c (h : PF w B L v i g W n q) (hn0 : 0 ≤ q.node) (hn : q.node ≤ 1000000) :
    Calls Tryz.prog 72 #[.pointer (some ⟨g, i * 11, none⟩)] W fun e w' => e = .returned (.tuple #[]) ∧ PF w B L v i g w' n (leavePP q) := by
  have c3 := h.pcell 3 (by omega)
  have c4 := h.pcell 4 (by omega)
  have fz := h.fzQ
  simp only [ppCells, List.getElem?_cons_succ, List.getElem?_cons_zero] at c3 c4
  have hdiv : Int.tdiv q.node 2 = q.node / 2 := Int.tdiv_eq_ediv_of_nonneg hn0
  by_cases h0 : q.node / 2 = 0
  · have b1 : (q.node / 2 == 0) = true := by simp [h0]
    have HE : Hid (PF w B L v i g ((W.setCell ⟨g, i * 11 + 4, none⟩ (I (q.node / 2))).setCell ⟨g, i * 11 + 3, none⟩ (I 20)) n (leavePP q)) :=
      (h.setQ 4 (by omega) (I (q.node / 2)) { q with node := q.node / 2 } rfl).setQ 3 (by omega) (I 20) (leavePP q) (by simp [ppCells, h0])
    clear h h0
    go_enter Tryz.func72, Tryz.ntmps72
    go_wp2
    go_end0
    exact ⟨rfl, HE.out⟩
  · have b1 : (q.node / 2 == 0) = false := by simp [h0]
    have HE : Hid (PF w B L v i g ((W.setCell ⟨g, i * 11 + 4, none⟩ (I (q.node / 2))).setCell ⟨g, i * 11 + 3, none⟩ (I 19)) n (leavePP q)) :=
      (h.setQ 4 (by omega) (I (q.node / 2)) { q with node := q.node / 2 } rfl).setQ 3 (by omega) (I 19) (leavePP q) (by simp [ppCells, h0])
    clear h h0
    go_enter Tryz.func72, Tryz.ntmps72
    go_wp2
    go_end0
    exact ⟨rfl, HE.out⟩

set_option maxHeartbeats 1000000 in
theorem turn_c (h : PF w B L v i g W n q) (hn0 : 0 ≤ q.node) (hn : q.node ≤ 1000000) (ht : n.toggle = 0 ∨ n.toggle = 1) :
    Calls Tryz.prog 69 #[.pointer (some ⟨g, i * 11, none⟩), .pointer (some ⟨L.tb, 8 + v * 21, none⟩)] W fun e w' => e = .returned (.tuple #[]) ∧ PF w B L v i g w' { n with toggle := 1 - n.toggle } (downPP q (if q.kind = 2 then 1 - n.toggle else n.toggle)) := by
  have c0 := h.pcell 0 (by omega)
  have d4 := h.ncell 4 (by omega)
  have fz := h.fzQ
  have fn := h.fzN
  have hne := h.ne
  simp only [ppCells, pnCells, List.getElem?_cons_succ, List.getElem?_cons_zero, Nat.add_zero] at c0 d4
  have h1 := h.setN 4 (by omega) (I (1 - n.toggle)) { n with toggle := 1 - n.toggle } rfl rfl rfl
  have HD : Hid (∀ b : Int, 0 ≤ b → b ≤ 1 → _) := fun (b : Int) (h0 : 0 ≤ b) (hb : b ≤ 1) => descend_c h1 hn0 hn b h0 hb
  by_cases hk : q.kind = 2
  · have b1 : (q.kind == 2) = true := by simp [hk]
    rw [if_pos hk]
    clear h h1 hk
    have hd := HD.out (1 - n.toggle) (by omega) (by omega)
    replace hd : Hid _ := hd
    generalize n.toggle = tg at *
    go_enter Tryz.func69, Tryz.ntmps69
    go_wp2_with fail
    refine Calls.mono hd.out ?_
    rintro e w1 ⟨rfl, hf⟩
    go_wp2_with fail
    go_end0
    exact ⟨rfl, hf⟩
  · have b1 : (q.kind == 2) = false := by simp [hk]
    rw [if_neg hk]
    clear h h1 hk
    have hd := HD.out n.toggle (by omega) (by omega)
    replace hd : Hid _ := hd
    go_enter Tryz.func69, Tryz.ntmps69
    go_wp2_with fail
    refine Calls.mono hd.out ?_
    rintro e w1 ⟨rfl, hf⟩
    go_wp2_with fail
    go_end0
    exact ⟨rfl, hf⟩

abbrev lookPP (n : PN) (q : PP) : PP := { q with phase := if n.shut = true then 2 else if n.inner = true then 3 else 12 }

set_option maxHeartbeats 2000000 in
theorem plook_walk (h : PF w B L v i g W n q) (hk : q.kind < 3) :
    Calls Tryz.prog 67 #[.pointer (some ⟨g, i * 11, none⟩), .pointer (some ⟨L.tb, 8 + v * 21, none⟩)] W fun e w' => e = .returned (.tuple #[]) ∧ PF w B L v i g w' n (lookPP n q) := by
  have c0 := h.pcell 0 (by omega)
  have c1 := h.pcell 1 (by omega)
  have c2 := h.pcell 2 (by omega)
  have c3 := h.pcell 3 (by omega)
  have d1 := h.ncell 1 (by omega)
  have d2 := h.ncell 2 (by omega)
  have fz := h.fzQ
  simp only [ppCells, pnCells, List.getElem?_cons_succ, List.getElem?_cons_zero, Nat.add_zero] at c0 c1 c2 c3 d1 d2
  have hch : isChange ⟨q.kind, q.oval, q.onode⟩ = false := by
    unfold isChange
    have a1 : ¬ (q.kind = 3) := by omega
    have a2 : ¬ (q.kind = 4) := by omega
    simp [a1, a2]
  have hc := fun W => pchanges_c ⟨q.kind, q.oval, q.onode⟩ W
  rw [hch] at hc
  unfold opV at hc
  simp only at hc
  replace hc : Hid _ := hc
  cases hs : n.shut with
  | true =>
    have HE : Hid (PF w B L v i g (W.setCell ⟨g, i * 11 + 3, none⟩ (I 2)) n (lookPP n q)) := h.setQ 3 (by omega) (I 2) (lookPP n q) (by simp [ppCells, hs])
    rw [hs] at d2
    clear h hs hch
    go_enter Tryz.func67, Tryz.ntmps67
    go_wp2
    go_end0
    exact ⟨rfl, HE.out⟩
  | false =>
    cases hin : n.inner with
    | true =>
      have HE : Hid (∀ W', Below W.heap.size W W' → PF w B L v i g (W'.setCell ⟨g, i * 11 + 3, none⟩ (I 3)) n (lookPP n q)) := fun W' hb => (h.below hb).setQ 3 (by omega) (I 3) (lookPP n q) (by simp [ppCells, hs, hin])
      have HF : Hid (∀ W', Below W.heap.size W W' → W'.cell? ⟨g, i * 11 + 3, none⟩ = some (I q.phase) ∧ W'.frozen? ⟨g, i * 11 + 3, none⟩ = false ∧ W'.cell? ⟨L.tb, 8 + v * 21 + 1, none⟩ = some (.bool n.inner)) := fun W' hb => ⟨(h.below hb).pcell 3 (by omega), (h.below hb).fzQ _, (h.below hb).ncell 1 (by omega)⟩
      rw [hs] at d2
      rw [hin] at d1 HF
      clear h hs hch hin
      go_enter Tryz.func67, Tryz.ntmps67
      go_wp2_with fail
      refine Calls.mono (hc.out _) ?_
      rintro e w1 ⟨rfl, hb⟩
      obtain ⟨g1, g2, g3⟩ := HF.out w1 hb
      clear c0 c1 c2 c3 d1 d2 fz hc
      go_wp2
      go_end0
      exact ⟨rfl, HE.out _ hb⟩
    | false =>
      have HE : Hid (∀ W', Below W.heap.size W W' → PF w B L v i g (W'.setCell ⟨g, i * 11 + 3, none⟩ (I 12)) n (lookPP n q)) := fun W' hb => (h.below hb).setQ 3 (by omega) (I 12) (lookPP n q) (by simp [ppCells, hs, hin])
      have HF : Hid (∀ W', Below W.heap.size W W' → W'.cell? ⟨g, i * 11 + 3, none⟩ = some (I q.phase) ∧ W'.frozen? ⟨g, i * 11 + 3, none⟩ = false ∧ W'.cell? ⟨L.tb, 8 + v * 21 + 1, none⟩ = some (.bool n.inner)) := fun W' hb => ⟨(h.below hb).pcell 3 (by omega), (h.below hb).fzQ _, (h.below hb).ncell 1 (by omega)⟩
      rw [hs] at d2
      rw [hin] at d1 HF
      clear h hs hch hin
      go_enter Tryz.func67, Tryz.ntmps67
      go_wp2_with fail
      refine Calls.mono (hc.out _) ?_
      rintro e w1 ⟨rfl, hb⟩
      obtain ⟨g1, g2, g3⟩ := HF.out w1 hb
      clear c0 c1 c2 c3 d1 d2 fz hc
      go_wp2
      go_end0
      exact ⟨rfl, HE.out _ hb⟩

end

set_option maxHeartbeats 1000000 in
theorem modulo_c (x : Int) (m : Nat) (hm : 1 ≤ m) (hm4 : m ≤ 1000) (w : World) :
    Calls Tryz.prog 44 #[I x, I m] w fun e w' => e = .returned (I (x % m)) ∧ w' = w := by
  have ht := tmod_twice x m (by omega)
  have hlt := Int.tmod_lt_of_pos x (by omega : (0 : Int) < m)
  have hge : -(m : Int) < x.tmod m := by
    rcases Int.le_total 0 x with hx | hx
    · have := Int.tmod_nonneg (m : Int) hx; omega
    · have h2 : (-x).tmod m = -(x.tmod m) := Int.neg_tmod x m
      have h3 := Int.tmod_lt_of_pos (-x) (by omega : (0 : Int) < m)
      omega
  have h3 : (x.tmod m + m).tmod m = (x.tmod m + m) % m := Int.tmod_eq_emod_of_nonneg (by omega)
  rw [h3] at ht
  have HV : Hid (x % (m : Int) = if Int.tmod x m < 0 then Int.tmod x m + m else Int.tmod x m) := by
    show _ = _
    rw [← ht]
    by_cases c : Int.tmod x m < 0
    · rw [if_pos c, Int.emod_eq_of_lt (by omega) (by omega)]
    · rw [if_neg c, Int.add_emod_right, Int.emod_eq_of_lt (by omega) (by omega)]
  have hne : ((m : Int) == 0) = false := by simp; omega
  have hl1 : decide ((m : Int) < 1) = false := by simp; omega
  clear ht h3
  by_cases hneg : Int.tmod x m < 0
  · have HR : Hid (x % (m : Int) = Int.tmod x m + m) := by have := HV.out; rw [if_pos hneg] at this; exact this
    clear HV
    go_enter Tryz.func44, Tryz.ntmps44
    go_wp2
    go_ret
    exact ⟨ret_i HR.out.symm, rfl⟩
  · have HR : Hid (x % (m : Int) = Int.tmod x m) := by have := HV.out; rw [if_neg hneg] at this; exact this
    have hn2 : decide (Int.tmod x m < 0) = false := by simp; omega
    clear HV
    go_enter Tryz.func44, Tryz.ntmps44
    go_wp2
    go_ret
    exact ⟨ret_i HR.out.symm, rfl⟩

def PN.setSlot (n : PN) (k : Nat) (s : SL) : PN :=
  match k with
  | 0 => { n with s0 := s }
  | 1 => { n with s1 := s }
  | 2 => { n with s2 := s }
  | _ => { n with s3 := s }
def slCells (s : SL) : List Value := [I s.st, I s.wh, I s.by']

theorem setSlot_slot (n : PN) (k : Nat) (hk : k < 4) (s : SL) : (n.setSlot k s).slot k = s := by
  have : k = 0 ∨ k = 1 ∨ k = 2 ∨ k = 3 := by omega
  rcases this with rfl | rfl | rfl | rfl <;> rfl
theorem setSlot_other (n : PN) (k : Nat) (hk : k < 4) (j : Nat) (hj : j < 4) (hne : j ≠ k) (s : SL) : (n.setSlot k s).slot j = n.slot j := by
  have : k = 0 ∨ k = 1 ∨ k = 2 ∨ k = 3 := by omega
  have h2 : j = 0 ∨ j = 1 ∨ j = 2 ∨ j = 3 := by omega
  rcases this with rfl | rfl | rfl | rfl <;> rcases h2 with rfl | rfl | rfl | rfl <;> first | rfl | exact absurd rfl hne
theorem setSlot_twice (n : PN) (k : Nat) (s s' : SL) : (n.setSlot k s).setSlot k s' = n.setSlot k s' := by
  rcases k with _ | _ | _ | k <;> rfl

section
variable {w : World} {B : Nat} {L : PLay} {v i g : Nat} {W : World} {n : PN} {q : PP}

theorem PF.scell (h : PF w B L v i g W n q) {k : Nat} (hk : k < 4) (j : Nat) (hj : j < 3) : W.cell? ⟨L.tb, 8 + v * 21 + 6 + k * 3 + j, none⟩ = (slCells (n.slot k))[j]? := by
  have := h.ncell (6 + k * 3 + j) (by omega)
  rw [show 8 + v * 21 + (6 + k * 3 + j) = 8 + v * 21 + 6 + k * 3 + j from by omega] at this
  rw [this]
  have h1 : k = 0 ∨ k = 1 ∨ k = 2 ∨ k = 3 := by omega
  have h2 : j = 0 ∨ j = 1 ∨ j = 2 := by omega
  rcases h1 with rfl | rfl | rfl | rfl <;> rcases h2 with rfl | rfl | rfl <;> rfl

theorem PF.setS (h : PF w B L v i g W n q) {k : Nat} (hk : k < 4) (j : Nat) (hj : j < 3) (x : Value) (s' : SL) (he : slCells s' = (slCells (n.slot k)).set j x) : PF w B L v i g (W.setCell ⟨L.tb, 8 + v * 21 + 6 + k * 3 + j, none⟩ x) (n.setSlot k s') q := by
  have h1 : k = 0 ∨ k = 1 ∨ k = 2 ∨ k = 3 := by omega
  have := h.setN (6 + k * 3 + j) (by omega) x (n.setSlot k s') (by
    have h2 : j = 0 ∨ j = 1 ∨ j = 2 := by omega
    have e0 : I s'.st = ((slCells (n.slot k)).set j x).getD 0 (I 0) := by rw [← he]; rfl
    have e1 : I s'.wh = ((slCells (n.slot k)).set j x).getD 1 (I 0) := by rw [← he]; rfl
    have e2 : I s'.by' = ((slCells (n.slot k)).set j x).getD 2 (I 0) := by rw [← he]; rfl
    rcases h1 with rfl | rfl | rfl | rfl <;> rcases h2 with rfl | rfl | rfl <;> (simp only [pnCells, PN.setSlot]; rw [e0, e1, e2]; rfl))
    (by rcases h1 with rfl | rfl | rfl | rfl <;> rfl) (by rcases h1 with rfl | rfl | rfl | rfl <;> rfl)
  rw [show 8 + v * 21 + (6 + k * 3 + j) = 8 + v * 21 + 6 + k * 3 + j from by omega] at this
  exact this

/-- A slot is written whole. -/
theorem PF.setS3 (h : PF w B L v i g W n q) {k : Nat} (hk : k < 4) (s' : SL) : PF w B L v i g (((W.setCell ⟨L.tb, 8 + v * 21 + 6 + k * 3, none⟩ (I s'.st)).setCell ⟨L.tb, 8 + v * 21 + 6 + k * 3 + 1, none⟩ (I s'.wh)).setCell ⟨L.tb, 8 + v * 21 + 6 + k * 3 + 2, none⟩ (I s'.by')) (n.setSlot k s') q := by
  have h1 := h.setS hk 0 (by omega) (I s'.st) ⟨s'.st, (n.slot k).wh, (n.slot k).by'⟩ rfl
  have h2 := h1.setS hk 1 (by omega) (I s'.wh) ⟨s'.st, s'.wh, (n.slot k).by'⟩ (by rw [setSlot_slot _ _ hk]; rfl)
  have h3 := h2.setS hk 2 (by omega) (I s'.by') s' (by rw [setSlot_slot _ _ hk]; rfl)
  rw [setSlot_twice, setSlot_twice] at h3
  exact h3

theorem PF.pv (h : PF w B L v i g W n q) : ∃ cap, W.cell? ⟨L.tb, 680, none⟩ = some (.slice (some ⟨g, 0, none⟩) L.procs.length cap) ∧ L.procs.length ≤ cap ∧ L.procs.length ≤ maxLen ∧ cap ≤ maxLen := by
  obtain ⟨cap, e, c1, c2⟩ := h.hg
  have := h.rep.pcell
  exact ⟨cap, by rw [this]; exact congrArg some e, c1, Nat.le_trans c1 c2, c2⟩

def slotPP (s : SL) (q : PP) : PP := if s.st = 0 then { q with phase := 5 } else if s.st = 1 then { q with mind := s.wh, phase := 8 } else { q with phase := 11 }

set_option maxHeartbeats 2000000 in
theorem lookAtSlot_c (h : PF w B L v i g W n q) {k : Nat} (hk : k < 4) :
    Calls Tryz.prog 93 #[.pointer (some ⟨g, i * 11, none⟩), .pointer (some ⟨L.tb, 8 + v * 21 + 6 + k * 3, none⟩)] W fun e w' => e = .returned (.tuple #[]) ∧ PF w B L v i g w' n (slotPP (n.slot k) q) := by
  have s0 := h.scell hk 0 (by omega)
  have s1 := h.scell hk 1 (by omega)
  have c3 := h.pcell 3 (by omega)
  have c8 := h.pcell 8 (by omega)
  have fz := h.fzQ
  have hne := h.ne
  simp only [ppCells, slCells, List.getElem?_cons_succ, List.getElem?_cons_zero, Nat.add_zero] at s0 s1 c3 c8
  by_cases h0 : (n.slot k).st = 0
  · have HE : Hid (PF w B L v i g (W.setCell ⟨g, i * 11 + 3, none⟩ (I 5)) n (slotPP (n.slot k) q)) := h.setQ 3 (by omega) (I 5) _ (by simp [slotPP, ppCells, h0])
    rw [h0] at s0
    clear h h0
    go_enter Tryz.func93, Tryz.ntmps93
    go_wp2
    go_end0
    exact ⟨rfl, HE.out⟩
  · have b0 : ((n.slot k).st == 0) = false := by simp [h0]
    by_cases h1 : (n.slot k).st = 1
    · have HE : Hid (PF w B L v i g ((W.setCell ⟨g, i * 11 + 8, none⟩ (I (n.slot k).wh)).setCell ⟨g, i * 11 + 3, none⟩ (I 8)) n (slotPP (n.slot k) q)) := (h.setQ 8 (by omega) (I (n.slot k).wh) { q with mind := (n.slot k).wh } rfl).setQ 3 (by omega) (I 8) _ (by simp [slotPP, ppCells, h1])
      rw [h1] at s0
      clear h h0 h1 b0
      go_enter Tryz.func93, Tryz.ntmps93
      go_wp2
      go_end0
      exact ⟨rfl, HE.out⟩
    · have b1 : ((n.slot k).st == 1) = false := by simp [h1]
      have HE : Hid (PF w B L v i g (W.setCell ⟨g, i * 11 + 3, none⟩ (I 11)) n (slotPP (n.slot k) q)) := h.setQ 3 (by omega) (I 11) _ (by simp [slotPP, ppCells, h0, h1])
      clear h h0 h1
      go_enter Tryz.func93, Tryz.ntmps93
      go_wp2
      go_end0
      exact ⟨rfl, HE.out⟩

def waitPN (n : PN) (k : Nat) (q : PP) : PN := if (n.slot k).st = 2 then n else if 0 < q.pat then n else n.setSlot k zeroSL
def waitPP (s : SL) (q : PP) : PP := if s.st = 2 then { q with phase := 7 } else if 0 < q.pat then { q with pat := q.pat - 1 } else { q with phase := 10 }

set_option maxHeartbeats 2000000 in
theorem wait_c (h : PF w B L v i g W n q) {k : Nat} (hk : k < 4) (hp : q.pat ≤ 1000000) :
    Calls Tryz.prog 95 #[.pointer (some ⟨g, i * 11, none⟩), .pointer (some ⟨L.tb, 8 + v * 21 + 6 + k * 3, none⟩)] W fun e w' => e = .returned (.tuple #[]) ∧ PF w B L v i g w' (waitPN n k q) (waitPP (n.slot k) q) := by
  have s0 := h.scell hk 0 (by omega)
  have s1 := h.scell hk 1 (by omega)
  have s2 := h.scell hk 2 (by omega)
  have c3 := h.pcell 3 (by omega)
  have c9 := h.pcell 9 (by omega)
  have fz := h.fzQ
  have fn := h.fzN
  have hne := h.ne
  simp only [ppCells, slCells, List.getElem?_cons_succ, List.getElem?_cons_zero, Nat.add_zero] at s0 s1 s2 c3 c9
  by_cases h2 : (n.slot k).st = 2
  · have HE : Hid (PF w B L v i g (W.setCell ⟨g, i * 11 + 3, none⟩ (I 7)) (waitPN n k q) (waitPP (n.slot k) q)) := by
      unfold waitPN
      rw [if_pos h2]
      exact h.setQ 3 (by omega) (I 7) _ (by simp [waitPP, ppCells, h2])
    rw [h2] at s0
    clear h h2
    go_enter Tryz.func95, Tryz.ntmps95
    go_wp2
    go_end0
    exact ⟨rfl, HE.out⟩
  · have b0 : ((n.slot k).st == 2) = false := by simp [h2]
    by_cases hpos : 0 < q.pat
    · have HE : Hid (PF w B L v i g (W.setCell ⟨g, i * 11 + 9, none⟩ (I (q.pat - 1))) (waitPN n k q) (waitPP (n.slot k) q)) := by
        unfold waitPN
        rw [if_neg h2, if_pos hpos]
        exact h.setQ 9 (by omega) (I (q.pat - 1)) _ (by simp [waitPP, ppCells, h2, hpos])
      clear h h2
      go_enter Tryz.func95, Tryz.ntmps95
      go_wp2
      go_end0
      exact ⟨rfl, HE.out⟩
    · have hd : decide (0 < q.pat) = false := by simp; omega
      have HE : Hid (PF w B L v i g ((((W.setCell ⟨L.tb, 8 + v * 21 + 6 + k * 3, none⟩ (I 0)).setCell ⟨L.tb, 8 + v * 21 + 6 + k * 3 + 1, none⟩ (I 0)).setCell ⟨L.tb, 8 + v * 21 + 6 + k * 3 + 2, none⟩ (I 0)).setCell ⟨g, i * 11 + 3, none⟩ (I 10)) (waitPN n k q) (waitPP (n.slot k) q)) := by
        unfold waitPN
        rw [if_neg h2, if_neg hpos]
        exact (h.setS3 hk zeroSL).setQ 3 (by omega) (I 10) _ (by simp [waitPP, ppCells, h2, hpos])
      clear h h2
      go_enter Tryz.func95, Tryz.ntmps95
      go_wp2
      go_end0
      exact ⟨rfl, HE.out⟩

theorem wider_c (h : PF w B L v i g W n q) (m : Int) (hw0 : 0 ≤ q.width) (hw9 : q.width ≤ 1000) :
    Calls Tryz.prog 98 #[.pointer (some ⟨g, i * 11, none⟩), I m] W fun e w' => e = .returned (I (if m < 2 * q.width then m else 2 * q.width)) ∧ w' = W := by
  have c6 := h.pcell 6 (by omega)
  simp only [ppCells, List.getElem?_cons_succ, List.getElem?_cons_zero] at c6
  clear h
  by_cases hlt : m < 2 * q.width
  · rw [if_pos hlt]
    go_enter Tryz.func98, Tryz.ntmps98
    go_wp2
    go_ret
    exact ⟨rfl, rfl⟩
  · rw [if_neg hlt]
    have hd : decide (m < 2 * q.width) = false := by simp; omega
    go_enter Tryz.func98, Tryz.ntmps98
    go_wp2
    go_ret
    exact ⟨rfl, rfl⟩

theorem narrower_c (h : PF w B L v i g W n q) (hw0 : 0 ≤ q.width) (hw9 : q.width ≤ 1000) :
    Calls Tryz.prog 99 #[.pointer (some ⟨g, i * 11, none⟩)] W fun e w' => e = .returned (I (if q.width < 2 then 1 else q.width / 2)) ∧ w' = W := by
  have c6 := h.pcell 6 (by omega)
  simp only [ppCells, List.getElem?_cons_succ, List.getElem?_cons_zero] at c6
  have hdiv : Int.tdiv q.width 2 = q.width / 2 := Int.tdiv_eq_ediv_of_nonneg hw0
  clear h
  by_cases hlt : q.width < 2
  · rw [if_pos hlt]
    go_enter Tryz.func99, Tryz.ntmps99
    go_wp2
    go_ret
    exact ⟨rfl, rfl⟩
  · rw [if_neg hlt]
    have hd : decide (q.width < 2) = false := by simp; omega
    go_enter Tryz.func99, Tryz.ntmps99
    go_wp2
    go_ret
    exact ⟨rfl, rfl⟩

def settlePP (q : PP) (o : Op3) (b : Int) : PP := if q.kind = o.kind then downPP q b else if q.kind = 2 then { q with val := o.val, phase := 19 } else { q with phase := 19 }

set_option maxHeartbeats 2000000 in
theorem settle_c (h : PF w B L v i g W n q) (o : Op3) (hn0 : 0 ≤ q.node) (hn : q.node ≤ 1000000) (b : Int) (hb0 : 0 ≤ b) (hb : b ≤ 1) :
    Calls Tryz.prog 96 #[.pointer (some ⟨g, i * 11, none⟩), opV o, I b] W fun e w' => e = .returned (.tuple #[]) ∧ PF w B L v i g w' n (settlePP q o b) := by
  have HD : Hid (∀ W', Below W.heap.size W W' → _) := fun W' (hW : Below W.heap.size W W') => descend_c (h.below hW) hn0 hn b hb0 hb
  have HF : Hid (∀ W', Below W.heap.size W W' → (W'.cell? ⟨g, i * 11, none⟩ = some (I q.kind) ∧ W'.cell? ⟨g, i * 11 + 3, none⟩ = some (I q.phase) ∧ W'.cell? ⟨g, i * 11 + 5, none⟩ = some (I q.val)) ∧ ∀ j, W'.frozen? ⟨g, j, none⟩ = false) := fun W' hW => ⟨⟨(h.below hW).pcell 0 (by omega), (h.below hW).pcell 3 (by omega), (h.below hW).pcell 5 (by omega)⟩, (h.below hW).fzQ⟩
  obtain ⟨kd, vl, nd⟩ := o
  unfold opV
  simp only
  have hb1 : Below W.heap.size W (W.alloc (.cells #[I kd, I vl, I nd] 77)).drew := ((Below.refl _ _).alloc (Nat.le_refl _) _).drew
  obtain ⟨⟨c0, c3, c5⟩, fz⟩ := HF.out W (Below.refl _ _)
  have lg := cell_lt c0
  by_cases hk : q.kind = kd
  · have b1 : (q.kind == kd) = true := by simp [hk]
    have HE : Hid (settlePP q ⟨kd, vl, nd⟩ b = downPP q b) := by show _ = _; simp [settlePP, hk]
    rw [HE.out]
    have hd := HD.out _ hb1
    replace hd : Hid _ := hd
    clear h hk HD HF HE
    go_enter Tryz.func96, Tryz.ntmps96
    go_wp2_with fail
    go_region
    go_wp2_with fail
    refine Calls.mono hd.out ?_
    rintro e w1 ⟨rfl, hf⟩
    go_wp2_with fail
    exact bodyPost_ret (v := .tuple #[]) (by simp [results, Tryz.results96, go_sem]) rfl ⟨rfl, hf⟩
  · have b1 : (q.kind == kd) = false := by simp [hk]
    by_cases h2 : q.kind = 2
    · have b2 : (q.kind == 2) = true := by simp [h2]
      have HE : Hid (PF w B L v i g (((W.setCell ⟨g, i * 11 + 5, none⟩ (I vl)).setCell ⟨g, i * 11 + 3, none⟩ (I 19)).alloc (.cells #[I kd, I vl, I nd] 77)).drew n (settlePP q ⟨kd, vl, nd⟩ b)) :=
        ((h.setQ 5 (by omega) (I vl) { q with val := vl } rfl).setQ 3 (by omega) (I 19) _ (by unfold settlePP; rw [if_neg hk, if_pos h2]; rfl)).below (((Below.refl _ _).alloc (Nat.le_refl _) _).drew)
      clear h hk h2 HD HF
      go_enter Tryz.func96, Tryz.ntmps96
      go_wp2_with fail
      go_region
      go_wp2
      go_end0
      exact ⟨rfl, HE.out⟩
    · have b2 : (q.kind == 2) = false := by simp [h2]
      have HE : Hid (PF w B L v i g ((W.setCell ⟨g, i * 11 + 3, none⟩ (I 19)).alloc (.cells #[I kd, I vl, I nd] 77)).drew n (settlePP q ⟨kd, vl, nd⟩ b)) :=
        (h.setQ 3 (by omega) (I 19) _ (by unfold settlePP; rw [if_neg hk, if_neg h2]; rfl)).below (((Below.refl _ _).alloc (Nat.le_refl _) _).drew)
      clear h hk h2 HD HF
      go_enter Tryz.func96, Tryz.ntmps96
      go_wp2_with fail
      go_region
      go_wp2
      go_end0
      exact ⟨rfl, HE.out⟩

end

section
variable {w : World} {B : Nat} {L : PLay} {v i g : Nat} {W : World} {n : PN} {q : PP}

theorem PF.conf (h : PF w B L v i g W n q) (j : Nat) (hj : j < 8) : W.cell? ⟨L.tb, j, none⟩ = (pConf L.c)[j]? := h.rep.ccell j hj

def claimPN (n : PN) (k i : Nat) : PN := if (n.slot k).st = 0 then n.setSlot k ⟨1, i, 0⟩ else n
def claimPP (c : Conf) (s : SL) (q : PP) : PP := if s.st = 0 then { q with pat := c.spin, phase := 6 } else { q with phase := 9 }

set_option maxHeartbeats 2000000 in
theorem claim_c (h : PF w B L v i g W n q) {k : Nat} (hk : k < 4) :
    Calls Tryz.prog 94 #[.pointer (some ⟨L.tb, 0, none⟩), I i, .pointer (some ⟨L.tb, 8 + v * 21 + 6 + k * 3, none⟩)] W fun e w' => e = .returned (.tuple #[]) ∧ PF w B L v i g w' (claimPN n k i) (claimPP L.c (n.slot k) q) := by
  have s0 := h.scell hk 0 (by omega)
  have s1 := h.scell hk 1 (by omega)
  have s2 := h.scell hk 2 (by omega)
  have c3 := h.pcell 3 (by omega)
  have c9 := h.pcell 9 (by omega)
  have k5 := h.conf 5 (by omega)
  obtain ⟨cap, p1, p2, p3, p4⟩ := h.pv
  have hi : (i : Int) < (L.procs.length : Int) := by have := h.hi; omega
  have fz := h.fzQ
  have fn := h.fzN
  have hne := h.ne
  unfold maxLen at p3 p4
  simp only [ppCells, slCells, pConf, List.getElem?_cons_succ, List.getElem?_cons_zero, Nat.add_zero] at s0 s1 s2 c3 c9 k5
  generalize L.procs.length = np at *
  by_cases h0 : (n.slot k).st = 0
  · have HE : Hid (PF w B L v i g (((((W.setCell ⟨L.tb, 8 + v * 21 + 6 + k * 3, none⟩ (I 1)).setCell ⟨L.tb, 8 + v * 21 + 6 + k * 3 + 1, none⟩ (I i)).setCell ⟨L.tb, 8 + v * 21 + 6 + k * 3 + 2, none⟩ (I 0)).setCell ⟨g, i * 11 + 9, none⟩ (I L.c.spin)).setCell ⟨g, i * 11 + 3, none⟩ (I 6)) (claimPN n k i) (claimPP L.c (n.slot k) q)) := by
      unfold claimPN
      rw [if_pos h0]
      exact ((h.setS3 hk ⟨1, i, 0⟩).setQ 9 (by omega) (I L.c.spin) { q with pat := L.c.spin } rfl).setQ 3 (by omega) (I 6) _ (by unfold claimPP; rw [if_pos h0]; rfl)
    rw [h0] at s0
    clear h h0
    go_enter Tryz.func94, Tryz.ntmps94
    go_wp2
    go_end0
    exact ⟨rfl, HE.out⟩
  · have b0 : ((n.slot k).st != 0) = true := by simp [h0]
    have HE : Hid (PF w B L v i g (W.setCell ⟨g, i * 11 + 3, none⟩ (I 9)) (claimPN n k i) (claimPP L.c (n.slot k) q)) := by
      unfold claimPN
      rw [if_neg h0]
      exact h.setQ 3 (by omega) (I 9) _ (by unfold claimPP; rw [if_neg h0]; rfl)
    clear h h0
    go_enter Tryz.func94, Tryz.ntmps94
    go_wp2
    exact bodyPost_ret (v := .tuple #[]) (by simp [results, Tryz.results94, go_sem]) rfl ⟨rfl, HE.out⟩

def meetsP (s : SL) (q : PP) : Prop := s.st = 1 ∧ s.wh = q.mind

set_option maxHeartbeats 2000000 in
theorem pmeet_no (h : PF w B L v i g W n q) {k : Nat} (hk : k < 4) (hm : ¬ meetsP (n.slot k) q) :
    Calls Tryz.prog 97 #[.pointer (some ⟨L.tb, 0, none⟩), I i, .pointer (some ⟨L.tb, 8 + v * 21 + 6 + k * 3, none⟩)] W fun e w' => e = .returned (.tuple #[]) ∧ PF w B L v i g w' n { q with phase := 9 } := by
  have s0 := h.scell hk 0 (by omega)
  have s1 := h.scell hk 1 (by omega)
  have c3 := h.pcell 3 (by omega)
  have c8 := h.pcell 8 (by omega)
  obtain ⟨cap, p1, p2, p3, p4⟩ := h.pv
  have hi : (i : Int) < (L.procs.length : Int) := by have := h.hi; omega
  have fz := h.fzQ
  have hne := h.ne
  unfold maxLen at p3 p4
  simp only [ppCells, slCells, List.getElem?_cons_succ, List.getElem?_cons_zero, Nat.add_zero] at s0 s1 c3 c8
  generalize L.procs.length = np at *
  have HE : Hid (PF w B L v i g (W.setCell ⟨g, i * 11 + 3, none⟩ (I 9)) n { q with phase := 9 }) := h.setQ 3 (by omega) (I 9) _ rfl
  unfold meetsP at hm
  by_cases h0 : (n.slot k).st = 1
  · have b1 : ((n.slot k).wh != q.mind) = true := by simp; intro e; exact hm ⟨h0, e⟩
    rw [h0] at s0
    clear h h0 hm
    go_enter Tryz.func97, Tryz.ntmps97
    go_wp2_with fail
    go_region
    go_wp2
    exact bodyPost_ret (v := .tuple #[]) (by simp [results, Tryz.results97, go_sem]) rfl ⟨rfl, HE.out.drew⟩
  · have b0 : ((n.slot k).st != 1) = true := by simp [h0]
    clear h h0 hm
    go_enter Tryz.func97, Tryz.ntmps97
    go_wp2_with fail
    go_region
    go_wp2
    exact bodyPost_ret (v := .tuple #[]) (by simp [results, Tryz.results97, go_sem]) rfl ⟨rfl, HE.out.drew⟩

set_option maxHeartbeats 4000000 in
theorem pmeet_yes (h : PF w B L v i g W n q) {k : Nat} (hk : k < 4) (hm : meetsP (n.slot k) q) (j : Nat) (hj : j < L.procs.length) (hji : j ≠ i) (hw : (n.slot k).wh = (j : Int)) (hn0 : 0 ≤ q.node) (hn : q.node ≤ 1000000) :
    Calls Tryz.prog 97 #[.pointer (some ⟨L.tb, 0, none⟩), I i, .pointer (some ⟨L.tb, 8 + v * 21 + 6 + k * 3, none⟩)] W fun e w' => e = .returned (.tuple #[]) ∧ PF w B L v i g w' (n.setSlot k ⟨2, (n.slot k).wh, i⟩) (settlePP q ⟨(L.procs[j]).kind, (L.procs[j]).oval, (L.procs[j]).onode⟩ 1) := by
  have s0 := h.scell hk 0 (by omega)
  have s1 := h.scell hk 1 (by omega)
  have s2 := h.scell hk 2 (by omega)
  have c8 := h.pcell 8 (by omega)
  obtain ⟨cap, p1, p2, p3, p4⟩ := h.pv
  have hi : (i : Int) < (L.procs.length : Int) := by have := h.hi; omega
  have hjl : (j : Int) < (L.procs.length : Int) := by omega
  have o0 := h.other j hj hji 0 (by omega)
  have o1 := h.other j hj hji 1 (by omega)
  have o2 := h.other j hj hji 2 (by omega)
  have fz := h.fzQ
  have fn := h.fzN
  have hne := h.ne
  have lN := h.ltN
  have lQ := cell_lt c8
  unfold maxLen at p3 p4
  simp only [ppCells, slCells, List.getElem?_cons_succ, List.getElem?_cons_zero, Nat.add_zero] at s0 s1 s2 c8 o0 o1 o2
  have h1 := h.setS hk 0 (by omega) (I 2) ⟨2, (n.slot k).wh, (n.slot k).by'⟩ rfl
  have h2 := h1.setS hk 2 (by omega) (I i) ⟨2, (n.slot k).wh, i⟩ (by rw [setSlot_slot _ _ hk]; rfl)
  rw [setSlot_twice, Nat.add_zero] at h2
  unfold meetsP at hm
  have HS : Hid (∀ W', Below _ _ W' → _) := fun W' (hb : Below ((W.setCell ⟨L.tb, 8 + v * 21 + 6 + k * 3, none⟩ (I 2)).setCell ⟨L.tb, 8 + v * 21 + 6 + k * 3 + 2, none⟩ (I i)).heap.size ((W.setCell ⟨L.tb, 8 + v * 21 + 6 + k * 3, none⟩ (I 2)).setCell ⟨L.tb, 8 + v * 21 + 6 + k * 3 + 2, none⟩ (I i)) W') => settle_c (h2.below hb) ⟨(L.procs[j]).kind, (L.procs[j]).oval, (L.procs[j]).onode⟩ hn0 hn 1 (by omega) (by omega)
  rw [hm.1] at s0
  rw [hm.2] at s1 hw
  rw [hw] at s1 c8
  unfold opV at HS
  simp only at HS
  generalize (L.procs[j]).kind = ok at *
  generalize (L.procs[j]).oval = ov at *
  generalize (L.procs[j]).onode = on at *
  generalize L.procs.length = np at *
  clear h h1 h2 hm hw
  go_enter Tryz.func97, Tryz.ntmps97
  go_wp2_with fail
  go_region
  go_wp2_with fail
  go_region
  go_wp2_with fail
  refine Calls.mono (HS.out _ ?hb) ?_
  case hb => exact ((Below.refl _ _).alloc (Nat.le_refl _) _).drew.drew
  rintro e w1 ⟨rfl, hf⟩
  go_wp2_with fail
  go_end0
  exact ⟨rfl, hf⟩

end

section
variable {w : World} {B : Nat} {L : PLay} {v i g : Nat} {W : World} {n : PN} {q : PP}

/-- What stepAtSlot, stepAtLeaf and step read first. -/
structure PFacts (L : PLay) (v i g : Nat) (W : World) (n : PN) (q : PP) (np cap : Nat) : Prop where
  c3 : W.cell? ⟨g, i * 11 + 3, none⟩ = some (I q.phase)
  c4 : W.cell? ⟨g, i * 11 + 4, none⟩ = some (I q.node)
  c7 : W.cell? ⟨g, i * 11 + 7, none⟩ = some (I q.slot)
  p1 : W.cell? ⟨L.tb, 680, none⟩ = some (.slice (some ⟨g, 0, none⟩) np cap)
  p2 : np ≤ cap
  p3 : np ≤ 2 ^ 63 - 1
  p4 : cap ≤ 2 ^ 63 - 1
  hi : (i : Int) < (np : Int)
  hv : (v : Int) < 32
  fz : ∀ k, W.frozen? ⟨g, k, none⟩ = false
  fn : ∀ k, W.frozen? ⟨L.tb, k, none⟩ = false
  hne : L.tb ≠ g
  lN : L.tb < W.heap.size
  lQ : g < W.heap.size

theorem PF.facts (h : PF w B L v i g W n q) : ∃ cap, PFacts L v i g W n q L.procs.length cap := by
  obtain ⟨cap, p1, p2, p3, p4⟩ := h.pv
  have hl : L.nodes.length = 32 := by have := h.rep.len; simpa [PLay.foc] using this
  exact ⟨cap, h.pcell 3 (by omega), h.pcell 4 (by omega), h.pcell 7 (by omega), p1, p2, p3, p4, by have := h.hi; omega, by have := h.hv; omega, h.fzQ, h.fzN, h.ne, h.ltN, cell_lt (h.pcell 3 (by omega))⟩

set_option maxHeartbeats 2000000 in
theorem atSlot_wide (h : PF w B L v i g W n q) (hv : q.node = (v : Int)) {k : Nat} (hs : q.slot = (k : Int)) (hk : k < 4) (hph : q.phase = 3) (draw : Int) (m : Nat) (hm : n.width = (m : Int)) (hm1 : 1 ≤ m) (hm4 : m ≤ 1000) :
    Calls Tryz.prog 68 #[.pointer (some ⟨L.tb, 0, none⟩), I i, I draw] W fun e w' => e = .returned (.tuple #[]) ∧ PF w B L v i g w' n { q with width := m, slot := draw % m, phase := 4 } := by
  obtain ⟨cap, c3, c4, c7, p1, p2, p3, p4, hi, hv32, fz, fn, hne, lN, lQ⟩ := h.facts
  rw [hv] at c4
  rw [hs] at c7
  rw [hph] at c3
  have hk4 : (k : Int) < 4 := by omega
  have c6 := h.pcell 6 (by omega)
  have d5 := h.ncell 5 (by omega)
  simp only [ppCells, pnCells, List.getElem?_cons_succ, List.getElem?_cons_zero] at c6 d5
  rw [hm] at d5
  have hmo := fun W => modulo_c draw m hm1 hm4 W
  replace hmo : Hid _ := hmo
  have HE : Hid (PF w B L v i g (((W.setCell ⟨g, i * 11 + 6, none⟩ (I m)).setCell ⟨g, i * 11 + 7, none⟩ (I (draw % m))).setCell ⟨g, i * 11 + 3, none⟩ (I 4)) n { q with width := m, slot := draw % m, phase := 4 }) :=
    ((h.setQ 6 (by omega) (I m) { q with width := m } rfl).setQ 7 (by omega) (I (draw % m)) { q with width := m, slot := draw % m } rfl).setQ 3 (by omega) (I 4) _ rfl
  generalize L.procs.length = np at *
  clear h hv hs hph hm
  go_enter Tryz.func68, Tryz.ntmps68
  go_wp2_with fail
  go_region
  go_wp2_with fail
  go_region
  go_wp2_with fail
  refine Calls.mono (hmo.out _) ?_
  rintro e w1 ⟨rfl, rfl⟩
  go_wp2
  go_end0
  exact ⟨rfl, HE.out.drew.drew⟩

set_option maxHeartbeats 2000000 in
theorem atSlot_look (h : PF w B L v i g W n q) (hv : q.node = (v : Int)) {k : Nat} (hs : q.slot = (k : Int)) (hk : k < 4) (hph : q.phase = 4) (draw : Int) :
    Calls Tryz.prog 68 #[.pointer (some ⟨L.tb, 0, none⟩), I i, I draw] W fun e w' => e = .returned (.tuple #[]) ∧ PF w B L v i g w' n (slotPP (n.slot k) q) := by
  obtain ⟨cap, c3, c4, c7, p1, p2, p3, p4, hi, hv32, fz, fn, hne, lN, lQ⟩ := h.facts
  rw [hv] at c4
  rw [hs] at c7
  rw [hph] at c3
  have hk4 : (k : Int) < 4 := by omega
  have hd := lookAtSlot_c h.drew.drew hk
  replace hd : Hid _ := hd
  generalize L.procs.length = np at *
  clear h hv hs hph
  go_enter Tryz.func68, Tryz.ntmps68
  go_wp2_with fail
  go_region
  go_wp2_with fail
  go_region
  go_wp2_with fail
  refine Calls.mono hd.out ?_
  rintro e w1 ⟨rfl, hf⟩
  go_wp2_with fail
  go_end0
  exact ⟨rfl, hf⟩

set_option maxHeartbeats 2000000 in
theorem atSlot_claim (h : PF w B L v i g W n q) (hv : q.node = (v : Int)) {k : Nat} (hs : q.slot = (k : Int)) (hk : k < 4) (hph : q.phase = 5) (draw : Int) :
    Calls Tryz.prog 68 #[.pointer (some ⟨L.tb, 0, none⟩), I i, I draw] W fun e w' => e = .returned (.tuple #[]) ∧ PF w B L v i g w' (claimPN n k i) (claimPP L.c (n.slot k) q) := by
  obtain ⟨cap, c3, c4, c7, p1, p2, p3, p4, hi, hv32, fz, fn, hne, lN, lQ⟩ := h.facts
  rw [hv] at c4
  rw [hs] at c7
  rw [hph] at c3
  have hk4 : (k : Int) < 4 := by omega
  have hd := claim_c h.drew.drew hk
  replace hd : Hid _ := hd
  generalize L.procs.length = np at *
  clear h hv hs hph
  go_enter Tryz.func68, Tryz.ntmps68
  go_wp2_with fail
  go_region
  go_wp2_with fail
  go_region
  go_wp2_with fail
  refine Calls.mono hd.out ?_
  rintro e w1 ⟨rfl, hf⟩
  go_wp2_with fail
  go_end0
  exact ⟨rfl, hf⟩

set_option maxHeartbeats 2000000 in
theorem atSlot_wait (h : PF w B L v i g W n q) (hv : q.node = (v : Int)) {k : Nat} (hs : q.slot = (k : Int)) (hk : k < 4) (hph : q.phase = 6) (draw : Int) (hp : q.pat ≤ 1000000) :
    Calls Tryz.prog 68 #[.pointer (some ⟨L.tb, 0, none⟩), I i, I draw] W fun e w' => e = .returned (.tuple #[]) ∧ PF w B L v i g w' (waitPN n k q) (waitPP (n.slot k) q) := by
  obtain ⟨cap, c3, c4, c7, p1, p2, p3, p4, hi, hv32, fz, fn, hne, lN, lQ⟩ := h.facts
  rw [hv] at c4
  rw [hs] at c7
  rw [hph] at c3
  have hk4 : (k : Int) < 4 := by omega
  have hd := wait_c h.drew.drew hk hp
  replace hd : Hid _ := hd
  generalize L.procs.length = np at *
  clear h hv hs hph
  go_enter Tryz.func68, Tryz.ntmps68
  go_wp2_with fail
  go_region
  go_wp2_with fail
  go_region
  go_wp2_with fail
  refine Calls.mono hd.out ?_
  rintro e w1 ⟨rfl, hf⟩
  go_wp2_with fail
  go_end0
  exact ⟨rfl, hf⟩

set_option maxHeartbeats 2000000 in
theorem atSlot_meet_no (h : PF w B L v i g W n q) (hv : q.node = (v : Int)) {k : Nat} (hs : q.slot = (k : Int)) (hk : k < 4) (hph : q.phase = 8) (draw : Int) (hm : ¬ meetsP (n.slot k) q) :
    Calls Tryz.prog 68 #[.pointer (some ⟨L.tb, 0, none⟩), I i, I draw] W fun e w' => e = .returned (.tuple #[]) ∧ PF w B L v i g w' n { q with phase := 9 } := by
  obtain ⟨cap, c3, c4, c7, p1, p2, p3, p4, hi, hv32, fz, fn, hne, lN, lQ⟩ := h.facts
  rw [hv] at c4
  rw [hs] at c7
  rw [hph] at c3
  have hk4 : (k : Int) < 4 := by omega
  have hd := pmeet_no h.drew.drew hk hm
  replace hd : Hid _ := hd
  generalize L.procs.length = np at *
  clear h hv hs hph
  go_enter Tryz.func68, Tryz.ntmps68
  go_wp2_with fail
  go_region
  go_wp2_with fail
  go_region
  go_wp2_with fail
  refine Calls.mono hd.out ?_
  rintro e w1 ⟨rfl, hf⟩
  go_wp2_with fail
  go_end0
  exact ⟨rfl, hf⟩

set_option maxHeartbeats 2000000 in
theorem atSlot_meet_yes (h : PF w B L v i g W n q) (hv : q.node = (v : Int)) {k : Nat} (hs : q.slot = (k : Int)) (hk : k < 4) (hph : q.phase = 8) (draw : Int) (hm : meetsP (n.slot k) q) (j : Nat) (hj : j < L.procs.length) (hji : j ≠ i) (hw : (n.slot k).wh = (j : Int)) (hn0 : 0 ≤ q.node) (hn : q.node ≤ 1000000) :
    Calls Tryz.prog 68 #[.pointer (some ⟨L.tb, 0, none⟩), I i, I draw] W fun e w' => e = .returned (.tuple #[]) ∧ PF w B L v i g w' (n.setSlot k ⟨2, (n.slot k).wh, i⟩) (settlePP q ⟨(L.procs[j]).kind, (L.procs[j]).oval, (L.procs[j]).onode⟩ 1) := by
  obtain ⟨cap, c3, c4, c7, p1, p2, p3, p4, hi, hv32, fz, fn, hne, lN, lQ⟩ := h.facts
  rw [hv] at c4
  rw [hs] at c7
  rw [hph] at c3
  have hk4 : (k : Int) < 4 := by omega
  have hd := pmeet_yes h.drew.drew hk hm j hj hji hw hn0 hn
  replace hd : Hid _ := hd
  generalize settlePP q ⟨(L.procs[j]).kind, (L.procs[j]).oval, (L.procs[j]).onode⟩ 1 = q2 at *
  clear hw hm
  generalize L.procs.length = np at *
  clear h hv hs hph
  go_enter Tryz.func68, Tryz.ntmps68
  go_wp2_with fail
  go_region
  go_wp2_with fail
  go_region
  go_wp2_with fail
  refine Calls.mono hd.out ?_
  rintro e w1 ⟨rfl, hf⟩
  go_wp2_with fail
  go_end0
  exact ⟨rfl, hf⟩

set_option maxHeartbeats 4000000 in
theorem atSlot_taken (h : PF w B L v i g W n q) (hv : q.node = (v : Int)) {k : Nat} (hs : q.slot = (k : Int)) (hk : k < 4) (hph : q.phase = 7) (draw : Int) (j : Nat) (hj : j < L.procs.length) (hji : j ≠ i) (hby : (n.slot k).by' = (j : Int)) (hn0 : 0 ≤ q.node) (hn : q.node ≤ 1000000) :
    Calls Tryz.prog 68 #[.pointer (some ⟨L.tb, 0, none⟩), I i, I draw] W fun e w' => e = .returned (.tuple #[]) ∧ PF w B L v i g w' (n.setSlot k zeroSL) (settlePP q ⟨(L.procs[j]).kind, (L.procs[j]).oval, (L.procs[j]).onode⟩ 0) := by
  obtain ⟨cap, c3, c4, c7, p1, p2, p3, p4, hi, hv32, fz, fn, hne, lN, lQ⟩ := h.facts
  rw [hv] at c4
  rw [hs] at c7
  rw [hph] at c3
  have hk4 : (k : Int) < 4 := by omega
  have s0 := h.scell hk 0 (by omega)
  have s1 := h.scell hk 1 (by omega)
  have s2 := h.scell hk 2 (by omega)
  have hjl : (j : Int) < (L.procs.length : Int) := by omega
  have o0 := h.other j hj hji 0 (by omega)
  have o1 := h.other j hj hji 1 (by omega)
  have o2 := h.other j hj hji 2 (by omega)
  simp only [ppCells, slCells, List.getElem?_cons_succ, List.getElem?_cons_zero, Nat.add_zero] at s0 s1 s2 o0 o1 o2
  rw [hby] at s2
  have h2 := h.setS3 hk zeroSL
  have HS : Hid (∀ W', Below _ _ W' → _) := fun W' (hb : Below (((W.setCell ⟨L.tb, 8 + v * 21 + 6 + k * 3, none⟩ (I 0)).setCell ⟨L.tb, 8 + v * 21 + 6 + k * 3 + 1, none⟩ (I 0)).setCell ⟨L.tb, 8 + v * 21 + 6 + k * 3 + 2, none⟩ (I 0)).heap.size (((W.setCell ⟨L.tb, 8 + v * 21 + 6 + k * 3, none⟩ (I 0)).setCell ⟨L.tb, 8 + v * 21 + 6 + k * 3 + 1, none⟩ (I 0)).setCell ⟨L.tb, 8 + v * 21 + 6 + k * 3 + 2, none⟩ (I 0)) W') => settle_c (h2.below hb) ⟨(L.procs[j]).kind, (L.procs[j]).oval, (L.procs[j]).onode⟩ hn0 hn 0 (by omega) (by omega)
  unfold opV at HS
  simp only at HS
  generalize (L.procs[j]).kind = ok at *
  generalize (L.procs[j]).oval = ov at *
  generalize (L.procs[j]).onode = on at *
  generalize L.procs.length = np at *
  clear h h2 hby hv hs hph
  go_enter Tryz.func68, Tryz.ntmps68
  go_wp2_with fail
  go_region
  go_wp2_with fail
  go_region
  go_wp2_with fail
  go_region
  go_wp2_with fail
  refine Calls.mono (HS.out _ ?hb) ?_
  case hb => first | exact ((Below.refl _ _).alloc (Nat.le_refl _) _).drew.drew.drew | trace_state
  rintro e w1 ⟨rfl, hf⟩
  go_wp2_with fail
  go_end0
  exact ⟨rfl, hf⟩

def growW (c : Conf) (q : PP) : Int := if c.width < 2 * q.width then c.width else 2 * q.width
def shrinkW (q : PP) : Int := if q.width < 2 then 1 else q.width / 2

set_option maxHeartbeats 2000000 in
theorem atSlot_grow (h : PF w B L v i g W n q) (hv : q.node = (v : Int)) {k : Nat} (hs : q.slot = (k : Int)) (hk : k < 4) (hph : q.phase = 9) (draw : Int) (hw0 : 0 ≤ q.width) (hw9 : q.width ≤ 1000) :
    Calls Tryz.prog 68 #[.pointer (some ⟨L.tb, 0, none⟩), I i, I draw] W fun e w' => e = .returned (.tuple #[]) ∧ PF w B L v i g w' { n with width := growW L.c q } { q with phase := 11 } := by
  obtain ⟨cap, c3, c4, c7, p1, p2, p3, p4, hi, hv32, fz, fn, hne, lN, lQ⟩ := h.facts
  rw [hv] at c4
  rw [hs] at c7
  rw [hph] at c3
  have hk4 : (k : Int) < 4 := by omega
  have d5 := h.ncell 5 (by omega)
  have k4 := h.conf 4 (by omega)
  simp only [pConf, pnCells, List.getElem?_cons_succ, List.getElem?_cons_zero] at d5 k4
  have hd := fun W' (hb : Below W.heap.size W W') => wider_c (h.below hb) L.c.width hw0 hw9
  replace hd : Hid _ := hd
  have HE : Hid (PF w B L v i g ((W.setCell ⟨L.tb, 8 + v * 21 + 5, none⟩ (I (growW L.c q))).setCell ⟨g, i * 11 + 3, none⟩ (I 11)) { n with width := growW L.c q } { q with phase := 11 }) :=
    (h.setN 5 (by omega) (I (growW L.c q)) { n with width := growW L.c q } rfl rfl rfl).setQ 3 (by omega) (I 11) _ rfl
  unfold growW at HE ⊢
  generalize (if L.c.width < 2 * q.width then L.c.width else 2 * q.width) = gw at *
  generalize L.procs.length = np at *
  clear h hv hs hph
  go_enter Tryz.func68, Tryz.ntmps68
  go_wp2_with fail
  go_region
  go_wp2_with fail
  go_region
  go_wp2_with fail
  refine Calls.mono (hd.out _ (Below.refl _ _).drew.drew) ?_
  rintro e w1 ⟨rfl, rfl⟩
  go_wp2
  go_end0
  exact ⟨rfl, HE.out.drew.drew⟩

set_option maxHeartbeats 2000000 in
theorem atSlot_shrink (h : PF w B L v i g W n q) (hv : q.node = (v : Int)) {k : Nat} (hs : q.slot = (k : Int)) (hk : k < 4) (hph : q.phase = 10) (draw : Int) (hw0 : 0 ≤ q.width) (hw9 : q.width ≤ 1000) :
    Calls Tryz.prog 68 #[.pointer (some ⟨L.tb, 0, none⟩), I i, I draw] W fun e w' => e = .returned (.tuple #[]) ∧ PF w B L v i g w' { n with width := shrinkW q } { q with phase := 11 } := by
  obtain ⟨cap, c3, c4, c7, p1, p2, p3, p4, hi, hv32, fz, fn, hne, lN, lQ⟩ := h.facts
  rw [hv] at c4
  rw [hs] at c7
  rw [hph] at c3
  have hk4 : (k : Int) < 4 := by omega
  have d5 := h.ncell 5 (by omega)
  simp only [pnCells, List.getElem?_cons_succ, List.getElem?_cons_zero] at d5
  have hd := fun W' (hb : Below W.heap.size W W') => narrower_c (h.below hb) hw0 hw9
  replace hd : Hid _ := hd
  have HE : Hid (PF w B L v i g ((W.setCell ⟨L.tb, 8 + v * 21 + 5, none⟩ (I (shrinkW q))).setCell ⟨g, i * 11 + 3, none⟩ (I 11)) { n with width := shrinkW q } { q with phase := 11 }) :=
    (h.setN 5 (by omega) (I (shrinkW q)) { n with width := shrinkW q } rfl rfl rfl).setQ 3 (by omega) (I 11) _ rfl
  unfold shrinkW at HE ⊢
  generalize (if q.width < 2 then 1 else q.width / 2) = gw at *
  generalize L.procs.length = np at *
  clear h hv hs hph
  go_enter Tryz.func68, Tryz.ntmps68
  go_wp2_with fail
  go_region
  go_wp2_with fail
  go_region
  go_wp2_with fail
  refine Calls.mono (hd.out _ (Below.refl _ _).drew.drew) ?_
  rintro e w1 ⟨rfl, rfl⟩
  go_wp2
  go_end0
  exact ⟨rfl, HE.out.drew.drew⟩

end

def itCells (y : Int × Int) : List Value := [I y.1, I y.2]
theorem it_len (y : Int × Int) : (itCells y).length = 2 := rfl

section
variable {w : World} {B : Nat} {L : PLay} {v i g : Nat} {W : World} {n : PN} {q : PP}

theorem PF.irow (h : PF w B L v i g W n q) : W.ownsRow B 148 2 n.iv n.items.length (n.items.flatMap itCells) := by
  have hv' : v < (L.foc v n i q).nodes.length := by simpa [PLay.foc] using h.hv
  have := h.rep.items v hv'
  rw [h.node_at hv'] at this
  exact this

theorem PF.item_at (h : PF w B L v i g W n q) : ∃ ao cap, n.iv = .slice ao n.items.length cap ∧ n.items.length ≤ cap ∧ n.items.length ≤ maxLen ∧ cap ≤ maxLen ∧
    ∀ t, (ht : t < n.items.length) → ∃ gi, ao = some ⟨gi, 0, none⟩ ∧ gi < W.heap.size ∧ gi ≠ L.tb ∧ gi ≠ g ∧ (∀ k, W.frozen? ⟨gi, k, none⟩ = false) ∧ W.cell? ⟨gi, t * 2, none⟩ = some (I (n.items[t]).1) ∧ W.cell? ⟨gi, t * 2 + 1, none⟩ = some (I (n.items[t]).2) := by
  have hr := h.irow
  obtain ⟨ao, cap, e1, c1, c2, c3, h2⟩ := ownsRow_cells hr
  refine ⟨ao, cap, e1, c1, c2, c3, fun t ht => ?_⟩
  obtain ⟨gi, ea, _, d0⟩ := h2 (t * 2 + 0) (I (n.items[t]).1) (by rw [flat_at itCells 2 it_len n.items t ht 0 (by omega)]; rfl)
  obtain ⟨gi', ea', _, d1⟩ := h2 (t * 2 + 1) (I (n.items[t]).2) (by rw [flat_at itCells 2 it_len n.items t ht 1 (by omega)]; rfl)
  rw [ea] at ea'
  simp at ea'
  subst ea'
  obtain ⟨cur, hb⟩ := ownsRow_block hr (g := gi) (by rw [e1, ea]; rfl)
  refine ⟨gi, ea, cell_lt d0, ?_, ?_, (nb_facts hb).2, d0, d1⟩
  · intro e
    have := h.blkN
    rw [← e, hb] at this
    simp at this
  · intro e
    obtain ⟨cur', hb', _⟩ := h.blkQ
    rw [← e, hb] at hb'
    simp at hb'

theorem PF.setI (h : PF w B L v i g W n q) {gi cap : Nat} (e : n.iv = .slice (some ⟨gi, 0, none⟩) n.items.length cap) (t : Nat) (ht : t < n.items.length) (j : Nat) (hj : j < 2) (x : Value) (y : Int × Int) (he : itCells y = (itCells n.items[t]).set j x) :
    PF w B L v i g (W.setCell ⟨gi, t * 2 + j, none⟩ x) { n with items := n.items.set t y } q := by
  have hr := h.irow
  rw [e] at hr
  obtain ⟨cur, hb⟩ := ownsRow_block hr (g := gi) rfl
  have hB : B ≤ gi := (hr.lt gi rfl).1
  obtain ⟨hr', _⟩ := hr.stored (t * 2 + j) x
  rw [flat_set itCells 2 it_len n.items t ht j hj x y he] at hr'
  refine ⟨⟨?_, h.rep.treeB, ?_, ?_, ?_, ?_⟩, h.chg.trans (ChgT.cell hb hB (by simp) _ _), h.hv, h.hi, h.hg⟩
  · show (W.setCell _ x).heap[L.tb]? = some (.cells (pTree (L.foc v { n with items := n.items.set t y } i q)).toArray _ _)
    have ep : pTree (L.foc v { n with items := n.items.set t y } i q) = pTree (L.foc v n i q) := by
      simp only [pTree]
      congr 2
      obtain ⟨_, s1⟩ := flat_split pnCells L.nodes v h.hv n
      obtain ⟨_, s2⟩ := flat_split pnCells L.nodes v h.hv { n with items := n.items.set t y }
      rw [s1, s2]
      rfl
    rw [ep, Below.heap_setCell _ _ _ _ (by intro e'; have := h.blkN; rw [e'] at this; simp only at this; rw [hb] at this; simp at this)]
    exact h.blkN
  · have := h.rep.len; simpa [PLay.foc] using this
  · exact ownsRow_setCell_type h.rep.prow hb (by decide) _ _
  · intro u hu'
    have hu : u < L.nodes.length := by simpa [PLay.foc] using hu'
    by_cases eu : u = v
    · subst eu
      simp only [List.getElem_set_self]
      rw [List.length_set, e]
      exact hr'
    · have hu2 : u < (L.foc v n i q).nodes.length := by simpa [PLay.foc] using hu
      have r := h.rep.items u hu2
      have hx : ((L.foc v n i q).nodes[u]).iv.ownBlock ≠ some gi := by
        intro hx
        have hv' : v < (L.foc v n i q).nodes.length := by simpa [PLay.foc] using h.hv
        refine eu (h.rep.ind u v hu2 hv' gi hx ?_)
        rw [h.node_at hv', e]
        rfl
      simp only [List.getElem_set_ne (Ne.symm eu)] at r hx ⊢
      exact ownsRow_setCell_other r hx x
  · intro a b ha hb2 k e1 e2
    have ha' : a < (L.foc v n i q).nodes.length := by simpa [PLay.foc] using ha
    have hb' : b < (L.foc v n i q).nodes.length := by simpa [PLay.foc] using hb2
    have key : ∀ u, (hu : u < (L.foc v n i q).nodes.length) → (hu' : u < (L.foc v { n with items := n.items.set t y } i q).nodes.length) → ((L.foc v { n with items := n.items.set t y } i q).nodes[u]).iv = ((L.foc v n i q).nodes[u]).iv := by
      intro u hu hu'
      by_cases eu : u = v
      · subst eu; simp only [List.getElem_set_self]
      · simp only [List.getElem_set_ne (Ne.symm eu)]
    rw [key a ha' ha] at e1
    rw [key b hb' hb2] at e2
    exact h.rep.ind a b ha' hb' k e1 e2

/-- An item is appended. -/
theorem PF.pushI (h : PF w B L v i g W n q) {W1 w2 : World} (hW : Below W.heap.size W W1) {gx cx : Nat} {y : Int × Int}
    (ho : w2.ownsRow B 148 2 (.slice (some ⟨gx, 0, none⟩) (n.items.length + 1) cx) (n.items.length + 1) (n.items.flatMap itCells ++ itCells y)) (hg : W1.grownBy w2 n.iv.ownBlock) (hgl : n.iv.ownBlock = some gx ∨ gx = W1.heap.size) :
    PF w B L v i g (w2.setCell ⟨L.tb, 8 + v * 21 + 20, none⟩ (.slice (some ⟨gx, 0, none⟩) (n.items.length + 1) cx)) { n with iv := .slice (some ⟨gx, 0, none⟩) (n.items.length + 1) cx, items := n.items ++ [y] } q := by
  have h1 := h.below hW
  have hr := h1.irow
  have hnt : some L.tb ≠ n.iv.ownBlock := by
    intro e
    obtain ⟨c', hc'⟩ := ownsRow_block hr e.symm
    rw [h1.blkN] at hc'
    simp at hc'
  have ht2 : w2.heap[L.tb]? = some (.cells (pTree (L.foc v n i q)).toArray 61 (0, 0)) := by
    rw [hg.block L.tb h1.ltN hnt]; exact h1.blkN
  have hch : ChgT B [61, 96, 148] W1 (w2.setCell ⟨L.tb, 8 + v * 21 + 20, none⟩ (.slice (some ⟨gx, 0, none⟩) (n.items.length + 1) cx)) := by
    refine ⟨hg.os, hg.tape, hg.output, by simpa [World.setCell] using hg.size, fun k hk hc => ?_⟩
    have hkt : k ≠ L.tb := by
      intro e
      subst e
      rcases hc with hc | hc
      · have := h.rep.treeB
        exact absurd hc (by show ¬ _ < _; have e : (L.foc v n i q).tb = L.tb := rfl; omega)
      · exact absurd (hc _ _ _ h1.blkN) (by simp)
    rw [Below.heap_setCell _ _ _ _ hkt, hg.block k hk (fun he => ?_)]
    rcases hc with hc | hc
    · have := (hr.lt k he.symm).1; omega
    · obtain ⟨c', hc'⟩ := ownsRow_block hr he.symm
      exact absurd (hc _ _ _ hc') (by simp)
  have hv' : v < (L.foc v n i q).nodes.length := by simpa [PLay.foc] using h.hv
  refine ⟨⟨?_, h.rep.treeB, ?_, ?_, ?_, ?_⟩, h1.chg.trans hch, h.hv, h.hi, h.hg⟩
  · show (w2.setCell _ _).heap[L.tb]? = _
    rw [nb_set ht2]
    congr 2
    have hl8 : (pConf L.c).length = 8 := rfl
    rw [List.setIfInBounds_toArray]
    congr 1
    show (pConf L.c ++ ((L.nodes.set v n).flatMap pnCells ++ [L.pv])).set (8 + v * 21 + 20) _ = pConf L.c ++ ((L.nodes.set v _).flatMap pnCells ++ [L.pv])
    have hvl : v < (L.nodes.set v n).length := by simpa using h.hv
    rw [List.set_append_right _ _ (by omega), List.set_append_left _ _ (by rw [flat_length pnCells 21 pn_len]; omega), hl8, show 8 + v * 21 + 20 - 8 = v * 21 + 20 from by omega,
      flat_set pnCells 21 pn_len (L.nodes.set v n) v hvl 20 (by omega) _ { n with iv := .slice (some ⟨gx, 0, none⟩) (n.items.length + 1) cx, items := n.items ++ [y] } (by rw [List.getElem_set_self]; rfl), List.set_set]
  · have := h.rep.len; simpa [PLay.foc] using this
  · refine ownsRow_setCell_type (h1.rep.prow.kept hg ?_) ht2 (by decide) _ _
    cases hx : (L.foc v n i q).pv.ownBlock with
    | none => exact Or.inl rfl
    | some g' =>
      refine Or.inr fun he => ?_
      obtain ⟨c1, hc1⟩ := ownsRow_block h1.rep.prow hx
      obtain ⟨c2, hc2⟩ := ownsRow_block hr he.symm
      rw [hc1] at hc2
      simp at hc2
  · intro u hu'
    have hu : u < L.nodes.length := by simpa [PLay.foc] using hu'
    by_cases eu : u = v
    · subst eu
      simp only [List.getElem_set_self, List.length_append, List.length_cons, List.length_nil]
      have := ownsRow_setCell_type ho ht2 (by decide) (8 + u * 21 + 20) (.slice (some ⟨gx, 0, none⟩) (n.items.length + 1) cx)
      have e : (n.items ++ [y]).flatMap itCells = n.items.flatMap itCells ++ itCells y := by rw [List.flatMap_append]; simp
      show World.ownsRow _ B _ 2 _ _ ((n.items ++ [y]).flatMap itCells)
      rw [e]
      exact this
    · have hu2 : u < (L.foc v n i q).nodes.length := by simpa [PLay.foc] using hu
      have r := h1.rep.items u hu2
      have r2 := r.kept hg (by
        cases hx : ((L.foc v n i q).nodes[u]).iv.ownBlock with
        | none => exact Or.inl rfl
        | some g' => exact Or.inr fun he => eu (h.rep.ind u v hu2 hv' g' hx (by rw [h.node_at hv']; exact he.symm)))
      have r3 := ownsRow_setCell_type r2 ht2 (by decide) (8 + v * 21 + 20) (.slice (some ⟨gx, 0, none⟩) (n.items.length + 1) cx)
      simp only [List.getElem_set_ne (Ne.symm eu)] at r3 ⊢
      exact r3
  · intro a b ha hb k e1 e2
    have ha' : a < (L.foc v n i q).nodes.length := by simpa [PLay.foc] using ha
    have hb' : b < (L.foc v n i q).nodes.length := by simpa [PLay.foc] using hb
    have key : ∀ u, (hu : u < (L.foc v n i q).nodes.length) → u ≠ v → ((L.foc v n i q).nodes[u]).iv.ownBlock = some gx → False := by
      intro u hu hne hx
      rcases hgl with hgl | hgl
      · exact hne (h.rep.ind u v hu hv' gx hx (by rw [h.node_at hv']; exact hgl))
      · have := ((h1.rep.items u hu).lt gx hx).2; omega
    by_cases h1' : a = v
    · by_cases h2 : b = v
      · omega
      · subst h1'
        simp only [List.getElem_set_self, Value.ownBlock, Option.some.injEq] at e1
        simp only [List.getElem_set_ne (Ne.symm h2)] at e2
        subst e1
        exact (key b hb' h2 (by simp only [List.getElem_set_ne (Ne.symm h2)]; exact e2)).elim
    · by_cases h2 : b = v
      · subst h2
        simp only [List.getElem_set_self, Value.ownBlock, Option.some.injEq] at e2
        simp only [List.getElem_set_ne (Ne.symm h1')] at e1
        subst e2
        exact (key a ha' h1' (by simp only [List.getElem_set_ne (Ne.symm h1')]; exact e1)).elim
      · simp only [List.getElem_set_ne (Ne.symm h1')] at e1
        simp only [List.getElem_set_ne (Ne.symm h2)] at e2
        exact h.rep.ind a b ha' hb' k (by simp only [List.getElem_set_ne (Ne.symm h1')]; exact e1) (by simp only [List.getElem_set_ne (Ne.symm h2)]; exact e2)
end

def roomTo : Nat → Nat → Nat → Nat
  | 0, _, r => r
  | f + 1, u, r => if 1 < u then roomTo f (u / 2) (r / 2) else r
theorem roomTo_stop (f u r : Nat) (h : ¬ 1 < u) : roomTo f u r = r := by cases f <;> simp [roomTo, h]
theorem roomTo_eq : ∀ s : Fin 5, ∀ d : Fin 5, ∀ u : Fin 32, Nat.log2 u.1 ≤ d.1 → roomTo 5 u.1 (s.1 * 2 ^ d.1) = s.1 * 2 ^ (d.1 - Nat.log2 u.1) := by decide +kernel

set_option maxHeartbeats 2000000 in
theorem room_c {w : World} {B : Nat} {L : PLay} (h : PRep w B L) (u : Nat) (hu : u < 32) (hs0 : 0 ≤ L.c.slots) (hs4 : L.c.slots ≤ 4) (hd0 : 0 ≤ L.c.depth) (hd4 : L.c.depth ≤ 4) (hld : (Nat.log2 u : Int) ≤ L.c.depth) :
    Calls Tryz.prog 102 #[.pointer (some ⟨L.tb, 0, none⟩), I u] w fun e w' => e = .returned (I (roomOf L.c u)) ∧ Below w.heap.size w w' := by
  obtain ⟨d, hd⟩ := Int.eq_ofNat_of_zero_le hd0
  obtain ⟨s, hs⟩ := Int.eq_ofNat_of_zero_le hs0
  have k1 := h.ccell 1 (by omega)
  have k3 := h.ccell 3 (by omega)
  simp only [pConf, List.getElem?_cons_succ, List.getElem?_cons_zero] at k1 k3
  have hR := roomTo_eq ⟨s, by omega⟩ ⟨d, by omega⟩ ⟨u, hu⟩ (by show Nat.log2 u ≤ d; omega)
  simp only at hR
  have HR : Hid (roomOf L.c u = ((roomTo 5 u (s * 2 ^ d) : Nat) : Int)) := by
    show _ = _
    rw [hR]
    unfold roomOf
    rw [hs, hd]
    simp
  rw [hd] at k1
  rw [hs] at k3
  have hf := fun W => firstOfDepth_c d (by omega) W
  replace hf : Hid _ := hf
  rw [HR.out]
  have hP : 2 ^ d ≤ 16 := Nat.le_trans (Nat.pow_le_pow_right (by omega) (by omega : d ≤ 4)) (by decide)
  have hS : s * 2 ^ d ≤ 4 * 16 := Nat.mul_le_mul (by omega) hP
  have hS2 : ((s : Int) * ((2 ^ d : Nat) : Int)) = ((s * 2 ^ d : Nat) : Int) := by simp
  generalize 2 ^ d = P2 at *
  generalize hM : s * P2 = M at *
  clear h hR HR hs hd hld hM
  go_enter Tryz.func102, Tryz.ntmps102
  go_wp2_with fail
  go_quiet ((go_at_call 38; exact Calls.quiet_of_same (hf.out _)))
  have hb : Below w.heap.size w (w.drewN nq) := Below.drewN' (Below.refl _ _) nq
  replace hb : Hid _ := hb
  clear hf k1 k3
  generalize w.drewN nq = wq at *
  go_wp2_with fail
  go_loop [5, 6] (fun r x => ∃ f uu rr : Nat, uu < 2 ^ f ∧ f ≤ 5 ∧ uu < 32 ∧ rr ≤ 64 ∧ Hid (roomTo f uu rr = roomTo 5 u M) ∧ r = .int .i64 rr ∧ x = .int .i64 uu) (fun _ x => (intOf x).toNat)
  case atStart => exact ⟨5, u, M, by omega, by omega, hu, by omega, rfl, rfl, rfl⟩
  case round =>
    obtain ⟨f, uu, rr, h1, h2, h3, h4, h5, rfl, rfl⟩ := hrel
    by_cases hgt : 1 < uu
    · cases f with
      | zero => exfalso; simp at h1; omega
      | succ f =>
        have H5 : Hid (roomTo f (uu / 2) (rr / 2) = roomTo 5 u M) := by have := h5.out; simp only [roomTo, hgt, if_true] at this; exact this
        have h1' : uu / 2 < 2 ^ f := by rw [Nat.pow_succ] at h1; omega
        replace h1' : Hid _ := h1'
        clear h5 h1
        go_wp2
        go_round
        case rel => exact ⟨f, uu / 2, rr / 2, h1', by omega, by omega, by omega, H5, by go_num, by go_num⟩
        case measure => simp [intOf]; omega
    · have H5 : Hid (((rr : Nat) : Int) = ((roomTo 5 u M : Nat) : Int)) := by have := h5.out; rw [roomTo_stop _ _ _ hgt] at this; show _ = _; rw [this]
      clear h5 h1
      go_wp2
      go_ret
      exact ⟨ret_i H5.out, hb.out⟩

section
variable {w : World} {B : Nat} {L : PLay} {v i g : Nat} {W : World} {n : PN} {q : PP}

set_option maxHeartbeats 2000000 in
theorem ticket_get (h : PF w B L v i g W n q) (hk : q.kind = 2) (hg0 : 0 ≤ n.gets) (hg9 : n.gets ≤ 1000000000000) :
    Calls Tryz.prog 101 #[.pointer (some ⟨g, i * 11, none⟩), .pointer (some ⟨L.tb, 8 + v * 21, none⟩)] W fun e w' => e = .returned (.tuple #[]) ∧ PF w B L v i g w' { n with gets := n.gets + 1 } { q with ticket := n.gets, phase := 14 } := by
  obtain ⟨cap, c3, c4, c7, p1, p2, p3, p4, hi, hv32, fz, fn, hne, lN, lQ⟩ := h.facts
  have c0 := h.pcell 0 (by omega)
  have c10 := h.pcell 10 (by omega)
  have d19 := h.ncell 19 (by omega)
  simp only [ppCells, pnCells, List.getElem?_cons_succ, List.getElem?_cons_zero, Nat.add_zero] at c0 c10 d19
  rw [hk] at c0
  have HE : Hid (PF w B L v i g (((W.setCell ⟨g, i * 11 + 10, none⟩ (I n.gets)).setCell ⟨L.tb, 8 + v * 21 + 19, none⟩ (I (n.gets + 1))).setCell ⟨g, i * 11 + 3, none⟩ (I 14)) { n with gets := n.gets + 1 } { q with ticket := n.gets, phase := 14 }) :=
    ((h.setQ 10 (by omega) (I n.gets) { q with ticket := n.gets } rfl).setN 19 (by omega) (I (n.gets + 1)) { n with gets := n.gets + 1 } rfl rfl rfl).setQ 3 (by omega) (I 14) _ rfl
  clear h hk
  go_enter Tryz.func101, Tryz.ntmps101
  go_wp2
  go_end0
  exact ⟨rfl, HE.out⟩

set_option maxHeartbeats 2000000 in
theorem ticket_inc (h : PF w B L v i g W n q) (hk : q.kind = 0) (hv : q.node = (v : Int)) (hp0 : 0 ≤ n.puts) (hp9 : n.puts ≤ 1000000000000) :
    Calls Tryz.prog 101 #[.pointer (some ⟨g, i * 11, none⟩), .pointer (some ⟨L.tb, 8 + v * 21, none⟩)] W fun e w' => e = .returned (.tuple #[]) ∧ PF w B L v i g w' { n with puts := n.puts + 1 } { q with val := rank v + ((2 ^ Nat.log2 v : Nat) : Int) * n.puts, phase := 19 } := by
  obtain ⟨cap, c3, c4, c7, p1, p2, p3, p4, hi, hv32, fz, fn, hne, lN, lQ⟩ := h.facts
  have c0 := h.pcell 0 (by omega)
  have c5 := h.pcell 5 (by omega)
  have d18 := h.ncell 18 (by omega)
  simp only [ppCells, pnCells, List.getElem?_cons_succ, List.getElem?_cons_zero, Nat.add_zero] at c0 c5 d18
  rw [hk] at c0
  rw [hv] at c4
  have l5 := log2_le5 v (by omega)
  have hpl := fun W => place_c v (by omega) W
  have hf := fun W => firstOfDepth_c (Nat.log2 v) l5 W
  have hrk : rank v ≤ 64 := by
    have : ∀ u : Fin 64, rank u.1 ≤ 64 := by decide
    exact this ⟨v, by omega⟩
  have hP : 2 ^ Nat.log2 v ≤ 32 := Nat.le_trans (Nat.pow_le_pow_right (by omega) l5) (by decide)
  have hm0 : 0 ≤ ((2 ^ Nat.log2 v : Nat) : Int) * n.puts := Int.mul_nonneg (Int.natCast_nonneg _) hp0
  have hm9 : ((2 ^ Nat.log2 v : Nat) : Int) * n.puts ≤ 32 * n.puts := Int.mul_le_mul_of_nonneg_right (Int.ofNat_le.2 hP) hp0
  generalize rank v = rk at *
  generalize 2 ^ Nat.log2 v = P2 at *
  generalize hM : (P2 : Int) * n.puts = M at *
  have HE : Hid (PF w B L v i g (((W.setCell ⟨g, i * 11 + 5, none⟩ (I (rk + M))).setCell ⟨L.tb, 8 + v * 21 + 18, none⟩ (I (n.puts + 1))).setCell ⟨g, i * 11 + 3, none⟩ (I 19)) { n with puts := n.puts + 1 } { q with val := rk + M, phase := 19 }) :=
    ((h.setQ 5 (by omega) (I (rk + M)) { q with val := rk + M } rfl).setN 18 (by omega) (I (n.puts + 1)) { n with puts := n.puts + 1 } rfl rfl rfl).setQ 3 (by omega) (I 19) _ rfl
  replace hf : Hid _ := hf
  replace hpl : Hid _ := hpl
  clear h hk hv
  go_enter Tryz.func101, Tryz.ntmps101
  go_wp2_with fail
  refine Calls.mono (hpl.out _) ?_
  rintro e w1 ⟨rfl, rfl⟩
  go_wp2_with fail
  go_region_with (go_at_call 38; refine Calls.mono (hf.out _) ?_; rintro e w1 ⟨rfl, rfl⟩)
  all_goals
    go_wp2
    go_end0
    exact ⟨rfl, HE.out.drew⟩

theorem PF.grown (h : PF w B L v i g W n q) {w2 : World} (hg : W.grownBy w2 n.iv.ownBlock) : w2.heap[L.tb]? = W.heap[L.tb]? ∧ w2.heap[g]? = W.heap[g]? := by
  have hr := h.irow
  obtain ⟨cur, hb, _⟩ := h.blkQ
  constructor
  · refine hg.block _ h.ltN fun e => ?_
    obtain ⟨c', hc'⟩ := ownsRow_block hr e.symm
    rw [h.blkN] at hc'
    simp at hc'
  · refine hg.block _ (Array.getElem?_eq_some_iff.1 hb).1 fun e => ?_
    obtain ⟨c', hc'⟩ := ownsRow_block hr e.symm
    rw [hb] at hc'
    simp at hc'

theorem Tryz.info148 : (Tryz.prog.info? 148).map (fun i => (i.zero, i.size, i.bytes)) = some (some (.agg #[.int .i64 0, .int .i64 0]), 2, 16) := by kernel_rfl

set_option maxHeartbeats 2000000 in
theorem ticket_put (h : PF w B L v i g W n q) (hB : B ≤ W.heap.size) (hk : q.kind = 1) (hp0 : 0 ≤ n.puts) (hp9 : n.puts ≤ 1000000000000) (hil : n.items.length ≤ 1000000000000) :
    Calls Tryz.prog 101 #[.pointer (some ⟨g, i * 11, none⟩), .pointer (some ⟨L.tb, 8 + v * 21, none⟩)] W fun e w' => e = .returned (.tuple #[]) ∧ ∃ x, PF w B L v i g w' { n with puts := n.puts + 1, iv := x, items := n.items ++ [(0, 0)] } { q with ticket := n.puts, phase := 13 } := by
  obtain ⟨cap, c3, c4, c7, p1, p2, p3, p4, hi, hv32, fz, fn, hne, lN, lQ⟩ := h.facts
  have c0 := h.pcell 0 (by omega)
  have c10 := h.pcell 10 (by omega)
  have d18 := h.ncell 18 (by omega)
  have d20 := h.ncell 20 (by omega)
  simp only [ppCells, pnCells, List.getElem?_cons_succ, List.getElem?_cons_zero, Nat.add_zero] at c0 c10 d18 d20
  rw [hk] at c0
  obtain ⟨ao, ic, e1, i1, i2, i3, i4⟩ := h.item_at
  rw [e1] at d20
  have h1 := (h.setQ 10 (by omega) (I n.puts) { q with ticket := n.puts } rfl).setN 18 (by omega) (I (n.puts + 1)) { n with puts := n.puts + 1 } rfl rfl rfl
  have hba : Below ((W.setCell ⟨g, i * 11 + 10, none⟩ (I n.puts)).setCell ⟨L.tb, 8 + v * 21 + 18, none⟩ (I (n.puts + 1))).heap.size ((W.setCell ⟨g, i * 11 + 10, none⟩ (I n.puts)).setCell ⟨L.tb, 8 + v * 21 + 18, none⟩ (I (n.puts + 1))) (((W.setCell ⟨g, i * 11 + 10, none⟩ (I n.puts)).setCell ⟨L.tb, 8 + v * 21 + 18, none⟩ (I (n.puts + 1))).alloc (.cells #[I 0, I 0] 148)) := (Below.refl _ _).alloc (Nat.le_refl _) _
  have h2 := h1.below hba
  have hrow := h2.irow
  have e1' : ({ n with puts := n.puts + 1 } : PN).iv = .slice ao n.items.length ic := e1
  rw [e1'] at hrow
  have hsz : (((W.setCell ⟨g, i * 11 + 10, none⟩ (I n.puts)).setCell ⟨L.tb, 8 + v * 21 + 18, none⟩ (I (n.puts + 1))).alloc (.cells #[I 0, I 0] 148)).heap.size = W.heap.size + 1 := by simp [World.setCell]
  have HO : Hid _ := hrow
  have HN : Hid (∀ j u, [I 0, I 0][j]? = some u → (((W.setCell ⟨g, i * 11 + 10, none⟩ (I n.puts)).setCell ⟨L.tb, 8 + v * 21 + 18, none⟩ (I (n.puts + 1))).alloc (.cells #[I 0, I 0] 148)).cell? ((⟨W.heap.size, 0, none⟩ : Addr).add j) = some u) := by
    have := cells_new ((W.setCell ⟨g, i * 11 + 10, none⟩ (I n.puts)).setCell ⟨L.tb, 8 + v * 21 + 18, none⟩ (I (n.puts + 1))) [I 0, I 0] 148
    have es : ((W.setCell ⟨g, i * 11 + 10, none⟩ (I n.puts)).setCell ⟨L.tb, 8 + v * 21 + 18, none⟩ (I (n.puts + 1))).heap.size = W.heap.size := by simp [World.setCell]
    rw [es] at this
    exact this
  have HC : Hid (∀ w', (((W.setCell ⟨g, i * 11 + 10, none⟩ (I n.puts)).setCell ⟨L.tb, 8 + v * 21 + 18, none⟩ (I (n.puts + 1))).alloc (.cells #[I 0, I 0] 148)).grownBy w' (Value.slice ao n.items.length ic).ownBlock → (w'.cell? ⟨L.tb, 8 + v * 21 + 20, none⟩ = some (.slice ao n.items.length ic) ∧ w'.frozen? ⟨L.tb, 8 + v * 21 + 20, none⟩ = false) ∧ w'.cell? ⟨g, i * 11 + 3, none⟩ = some (I q.phase) ∧ w'.frozen? ⟨g, i * 11 + 3, none⟩ = false) := by
    intro w' hg
    rw [← e1'] at hg
    obtain ⟨a1, a2⟩ := h2.grown hg
    refine ⟨⟨?_, ?_⟩, ?_, ?_⟩
    · rw [World.cell?_of_block (a := ⟨L.tb, 8 + v * 21 + 20, none⟩) a1, h2.ncell 20 (by omega), ← e1']; rfl
    · rw [World.frozen?_of_block (a := ⟨L.tb, 8 + v * 21 + 20, none⟩) a1]; exact h2.fzN _
    · rw [World.cell?_of_block (a := ⟨g, i * 11 + 3, none⟩) a2, h2.pcell 3 (by omega)]; rfl
    · rw [World.frozen?_of_block (a := ⟨g, i * 11 + 3, none⟩) a2]; exact h2.fzQ _
  have HP : Hid (∀ w' gx cx, w'.ownsRow B 148 2 (.slice (some ⟨gx, 0, none⟩) (n.items.length + 1) cx) (n.items.length + 1) (n.items.flatMap itCells ++ [I 0, I 0]) → (((W.setCell ⟨g, i * 11 + 10, none⟩ (I n.puts)).setCell ⟨L.tb, 8 + v * 21 + 18, none⟩ (I (n.puts + 1))).alloc (.cells #[I 0, I 0] 148)).grownBy w' (Value.slice ao n.items.length ic).ownBlock → ((Value.slice ao n.items.length ic).ownBlock = some gx ∨ gx = W.heap.size + 1) →
      PF w B L v i g ((w'.setCell ⟨L.tb, 8 + v * 21 + 20, none⟩ (.slice (some ⟨gx, 0, none⟩) (n.items.length + 1) cx)).setCell ⟨g, i * 11 + 3, none⟩ (I 13)) { n with puts := n.puts + 1, iv := .slice (some ⟨gx, 0, none⟩) (n.items.length + 1) cx, items := n.items ++ [(0, 0)] } { q with ticket := n.puts, phase := 13 }) := by
    intro w' gx cx a1 a2 a3
    rw [← e1'] at a2 a3
    have := h1.pushI hba (y := (0, 0)) a1 a2 (by rw [hsz]; exact a3)
    exact this.setQ 3 (by omega) (I 13) _ rfl
  have hB' : B ≤ W.heap.size + 1 := by omega
  clear hrow hba h1 h2 e1' i1 i2 i3 i4 h e1 hk hsz
  obtain ⟨i0, hi0, hz0, hz1, hz2⟩ := info_parts Tryz.info148
  generalize n.items.length = il at *
  go_enter Tryz.func101, Tryz.ntmps101
  go_wp2_with (at_builtin; go_must (refine wpList_append_lies _ rfl (.tmp 63) (.tmp 65) 55 rfl B 148 i0 _ 2 16 Tryz.underlying55 hi0 hz0 hz1 hz2 rfl (by decide) _ _ _ rfl HO.out ⟨W.heap.size, 0, none⟩ 1 1 [I 0, I 0] rfl rfl HN.out ?c2 (by decide) ?c3 ?c4 ?c5 (W.heap.size + 1) ?c6 ?_))
  case c2 => rfl
  case c3 => unfold maxLen; omega
  case c4 => omega
  intro gx cx w4 ho4 hg4 hl4 _
  obtain ⟨⟨cc1, cc2⟩, cc3, cc4⟩ := HC.out _ hg4
  have hfin := HP.out _ _ _ ho4 hg4 hl4
  replace hfin : Hid _ := hfin
  clear hg4 ho4 hl4 HP HC HN HO c0 c3 c4 c7 c10 d18 d20 p1 fz fn
  go_wp2
  go_end0
  exact ⟨rfl, _, hfin.out⟩
end

/-- Whether there is room under the ticket t, R tickets behind. -/
def roomyP (its : List (Int × Int)) (t R : Int) : Bool := decide (t - R < 0) || (decide (t - R < its.length) && decide ((its.getD (t - R).toNat (0, 0)).1 = 2))

section
variable {w : World} {B : Nat} {L : PLay} {v i g : Nat} {W : World} {n : PN} {q : PP}

set_option maxHeartbeats 2000000 in
theorem hasRoom_c (h : PF w B L v i g W n q) (t R : Int) (ht0 : 0 ≤ t) (ht9 : t ≤ 1000000000000) (hR0 : 0 ≤ R) (hR9 : R ≤ 1000) :
    Calls Tryz.prog 117 #[.pointer (some ⟨L.tb, 8 + v * 21, none⟩), I t, I R] W fun e w' => e = .returned (.bool (roomyP n.items t R)) ∧ w' = W := by
  have d20 := h.ncell 20 (by omega)
  simp only [pnCells, List.getElem?_cons_succ, List.getElem?_cons_zero] at d20
  obtain ⟨ao, ic, e1, i1, i2, i3, i4⟩ := h.item_at
  rw [e1] at d20
  clear h
  unfold maxLen at i2 i3
  by_cases hneg : t - R < 0
  · have HE : Hid (roomyP n.items t R = true) := by show _ = _; simp [roomyP, hneg]
    rw [HE.out]
    clear HE i4 e1
    go_enter Tryz.func117, Tryz.ntmps117
    go_wp2
    go_ret
    exact ⟨rfl, rfl⟩
  · obtain ⟨k, hk⟩ := Int.eq_ofNat_of_zero_le (by omega : 0 ≤ t - R)
    have hd : decide (t - R < 0) = false := by simp; omega
    by_cases hlt : k < n.items.length
    · obtain ⟨gi, rfl, l1, x2, x3, x4, x0, x1⟩ := i4 k hlt
      have hg : n.items.getD k (0, 0) = n.items[k] := by simp [List.getD_eq_getElem?_getD, List.getElem?_eq_getElem hlt]
      have HE : Hid (roomyP n.items t R = decide ((n.items[k]).1 = 2)) := by
        show _ = _
        unfold roomyP
        rw [hd, hk, Int.toNat_natCast, hg, decide_eq_true (by omega : (k : Int) < (n.items.length : Int))]
        simp
      rw [HE.out]
      clear HE i4 e1 hg x1 x2 x3 x4
      generalize (n.items[k]).1 = st at *
      generalize n.items.length = il at *
      have hkl : (k : Int) < (il : Int) := by omega
      have hk0 : 0 ≤ t - R := by omega
      by_cases h2 : st = 2
      · have b2 : (st == 2) = true := by simp [h2]
        rw [decide_eq_true h2]
        clear h2
        go_enter Tryz.func117, Tryz.ntmps117
        go_wp2
        go_ret
        exact ⟨rfl, rfl⟩
      · have b2 : (st == 2) = false := by simp [h2]
        rw [decide_eq_false h2]
        clear h2
        go_enter Tryz.func117, Tryz.ntmps117
        go_wp2
        go_ret
        exact ⟨rfl, rfl⟩
    · have HE : Hid (roomyP n.items t R = false) := by
        show _ = _
        unfold roomyP
        rw [hd, hk, decide_eq_false (by omega : ¬ (k : Int) < (n.items.length : Int))]
        simp
      rw [HE.out]
      clear HE i4 e1
      generalize n.items.length = il at *
      have hkl : decide ((k : Int) < (il : Int)) = false := by simp; omega
      go_enter Tryz.func117, Tryz.ntmps117
      go_wp2
      go_ret
      exact ⟨rfl, rfl⟩

set_option maxHeartbeats 4000000 in
theorem store_no (h : PF w B L v i g W n q) (t : Nat) (ht : q.ticket = (t : Int)) (htl : t < n.items.length) (ht9 : t ≤ 1000000000000) (R : Int) (hR0 : 0 ≤ R) (hR9 : R ≤ 1000) (hr : roomyP n.items t R = false) :
    Calls Tryz.prog 103 #[.pointer (some ⟨g, i * 11, none⟩), .pointer (some ⟨L.tb, 8 + v * 21, none⟩), I R] W fun e w' => e = .returned (.tuple #[]) ∧ PF w B L v i g w' n q := by
  have c10 := h.pcell 10 (by omega)
  have d20 := h.ncell 20 (by omega)
  simp only [ppCells, pnCells, List.getElem?_cons_succ, List.getElem?_cons_zero] at c10 d20
  rw [ht] at c10
  obtain ⟨ao, ic, e1, i1, i2, i3, i4⟩ := h.item_at
  rw [e1] at d20
  clear i4
  unfold maxLen at i2 i3
  have hh := fun W' (hb : Below W.heap.size W W') => hasRoom_c (h.below hb) t R (by omega) (by omega) hR0 hR9
  rw [hr] at hh
  replace hh : Hid _ := hh
  have HE : Hid (∀ W', Below W.heap.size W W' → PF w B L v i g W' n q) := fun W' hb => h.below hb
  have htl' : (t : Int) < (n.items.length : Int) := by omega
  clear h ht e1 hr
  generalize n.items.length = il at *
  go_enter Tryz.func103, Tryz.ntmps103
  go_wp2_with fail
  go_quiet ((go_at_call 117; exact Calls.quiet_of_same (hh.out _ (by first | exact (Below.refl _ _).drew | exact Below.drewN' (Below.refl _ _) _ | exact Below.refl _ _))))
  go_wp2
  exact bodyPost_ret (v := .tuple #[]) (by simp [results, Tryz.results103, go_sem]) rfl ⟨rfl, HE.out _ (Below.drewN' (Below.refl _ _) _)⟩

set_option maxHeartbeats 4000000 in
theorem store_yes (h : PF w B L v i g W n q) (t : Nat) (ht : q.ticket = (t : Int)) (htl : t < n.items.length) (ht9 : t ≤ 1000000000000) (R : Int) (hR0 : 0 ≤ R) (hR9 : R ≤ 1000) (hr : roomyP n.items t R = true) :
    Calls Tryz.prog 103 #[.pointer (some ⟨g, i * 11, none⟩), .pointer (some ⟨L.tb, 8 + v * 21, none⟩), I R] W fun e w' => e = .returned (.tuple #[]) ∧ PF w B L v i g w' { n with items := n.items.set t (1, q.oval) } { q with phase := 19 } := by
  have c10 := h.pcell 10 (by omega)
  have d20 := h.ncell 20 (by omega)
  simp only [ppCells, pnCells, List.getElem?_cons_succ, List.getElem?_cons_zero] at c10 d20
  rw [ht] at c10
  obtain ⟨ao, ic, e1, i1, i2, i3, i4⟩ := h.item_at
  rw [e1] at d20
  obtain ⟨gi, rfl, l1, x2, x3, x4, x0, x1⟩ := i4 t htl
  clear i4
  unfold maxLen at i2 i3
  have hh := fun W' (hb : Below W.heap.size W W') => hasRoom_c (h.below hb) t R (by omega) (by omega) hR0 hR9
  rw [hr] at hh
  replace hh : Hid _ := hh
  have HE : Hid (∀ W', Below W.heap.size W W' → PF w B L v i g (((W'.setCell ⟨gi, t * 2, none⟩ (I 1)).setCell ⟨gi, t * 2 + 1, none⟩ (I q.oval)).setCell ⟨g, i * 11 + 3, none⟩ (I 19)) { n with items := n.items.set t (1, q.oval) } { q with phase := 19 }) := fun W' hb => by
    have s1 := (h.below hb).setI e1 t htl 0 (by omega) (I 1) (1, (n.items[t]).2) rfl
    have s2 := s1.setI (gi := gi) (cap := ic) (by show n.iv = _; rw [List.length_set]; exact e1) t (by simpa using htl) 1 (by omega) (I q.oval) (1, q.oval) (by simp only [List.getElem_set_self]; rfl)
    simp only [List.set_set] at s2
    exact s2.setQ 3 (by omega) (I 19) _ rfl
  have HF : Hid (∀ W', Below W.heap.size W W' → (W'.cell? ⟨g, i * 11 + 1, none⟩ = some (I q.oval) ∧ W'.cell? ⟨g, i * 11 + 3, none⟩ = some (I q.phase) ∧ W'.cell? ⟨g, i * 11 + 10, none⟩ = some (I t) ∧ (∀ k, W'.frozen? ⟨g, k, none⟩ = false)) ∧ W'.cell? ⟨L.tb, 8 + v * 21 + 20, none⟩ = some (.slice (some ⟨gi, 0, none⟩) n.items.length ic) ∧ W'.cell? ⟨gi, t * 2, none⟩ = some (I (n.items[t]).1) ∧ W'.cell? ⟨gi, t * 2 + 1, none⟩ = some (I (n.items[t]).2) ∧ ∀ k, W'.frozen? ⟨gi, k, none⟩ = false) := by
    intro W' hb
    have h' := h.below hb
    obtain ⟨ao', ic', e1', _, _, _, i4'⟩ := h'.item_at
    obtain ⟨gi', ea', _, _, _, y4, y0, y1⟩ := i4' t htl
    rw [e1, ea'] at e1'
    have : gi = gi' := by simp at e1'; exact e1'.1
    subst this
    refine ⟨⟨h'.pcell 1 (by omega), h'.pcell 3 (by omega), ?_, h'.fzQ⟩, ?_, y0, y1, y4⟩
    · rw [← ht]; exact h'.pcell 10 (by omega)
    · rw [← e1]; exact h'.ncell 20 (by omega)
  have htl' : (t : Int) < (n.items.length : Int) := by omega
  generalize (n.items[t]).1 = st0 at *
  generalize (n.items[t]).2 = vl0 at *
  clear h ht e1 hr
  generalize hil : n.items.length = il at *
  go_enter Tryz.func103, Tryz.ntmps103
  go_wp2_with fail
  go_quiet ((go_at_call 117; exact Calls.quiet_of_same (hh.out _ (by first | exact (Below.refl _ _).drew | exact Below.drewN' (Below.refl _ _) _ | exact Below.refl _ _))))
  have hb : Below W.heap.size W (W.drewN nq) := Below.drewN' (Below.refl _ _) nq
  obtain ⟨⟨a1, a2, a3, a4⟩, a5, a6, a7, a8⟩ := HF.out _ hb
  have HE2 := HE.out _ hb
  replace HE2 : Hid _ := HE2
  clear c10 d20 x0 x1 x4 hh HF HE hb
  generalize W.drewN nq = wq at *
  go_wp2_with fail
  go_region
  go_wp2_with fail
  go_end0
  exact ⟨rfl, HE2.out.drew⟩

end

section
variable {w : World} {B : Nat} {L : PLay} {v i g : Nat} {W : World} {n : PN} {q : PP}

set_option maxHeartbeats 4000000 in
theorem fetch_no (h : PF w B L v i g W n q) (t : Nat) (ht : q.ticket = (t : Int)) (hr : (n.items.getD t (0, 0)).1 ≠ 1) :
    Calls Tryz.prog 104 #[.pointer (some ⟨g, i * 11, none⟩), .pointer (some ⟨L.tb, 8 + v * 21, none⟩)] W fun e w' => e = .returned (.tuple #[]) ∧ PF w B L v i g w' n q := by
  have c10 := h.pcell 10 (by omega)
  have d20 := h.ncell 20 (by omega)
  simp only [ppCells, pnCells, List.getElem?_cons_succ, List.getElem?_cons_zero] at c10 d20
  rw [ht] at c10
  obtain ⟨ao, ic, e1, i1, i2, i3, i4⟩ := h.item_at
  rw [e1] at d20
  unfold maxLen at i2 i3
  have HE : Hid (PF w B L v i g W n q) := h
  by_cases htl : t < n.items.length
  · obtain ⟨gi, rfl, l1, x2, x3, x4, x0, x1⟩ := i4 t htl
    have hg : n.items.getD t (0, 0) = n.items[t] := by simp [List.getD_eq_getElem?_getD, List.getElem?_eq_getElem htl]
    rw [hg] at hr
    have htl' : (t : Int) < (n.items.length : Int) := by omega
    clear h ht e1 i4 hg x1
    generalize (n.items[t]).1 = st0 at *
    have b1 : (st0 != 1) = true := by simp [hr]
    generalize n.items.length = il at *
    clear hr
    go_enter Tryz.func104, Tryz.ntmps104
    go_wp2_with fail
    go_quiet (fail)
    go_wp2
    exact bodyPost_ret (v := .tuple #[]) (by simp [results, Tryz.results104, go_sem]) rfl ⟨rfl, HE.out.below (Below.drewN' (Below.refl _ _) _)⟩
  · have htl' : (n.items.length : Int) ≤ (t : Int) := by omega
    clear h ht e1 i4 hr
    generalize n.items.length = il at *
    go_enter Tryz.func104, Tryz.ntmps104
    go_wp2_with fail
    go_quiet (fail)
    go_wp2
    exact bodyPost_ret (v := .tuple #[]) (by simp [results, Tryz.results104, go_sem]) rfl ⟨rfl, HE.out.below (Below.drewN' (Below.refl _ _) _)⟩

set_option maxHeartbeats 4000000 in
theorem fetch_yes (h : PF w B L v i g W n q) (t : Nat) (ht : q.ticket = (t : Int)) (htl : t < n.items.length) (hr : (n.items[t]).1 = 1) :
    Calls Tryz.prog 104 #[.pointer (some ⟨g, i * 11, none⟩), .pointer (some ⟨L.tb, 8 + v * 21, none⟩)] W fun e w' => e = .returned (.tuple #[]) ∧ PF w B L v i g w' { n with items := n.items.set t (2, 0) } { q with val := (n.items[t]).2, phase := 19 } := by
  have c3 := h.pcell 3 (by omega)
  have c5 := h.pcell 5 (by omega)
  have c10 := h.pcell 10 (by omega)
  have d20 := h.ncell 20 (by omega)
  simp only [ppCells, pnCells, List.getElem?_cons_succ, List.getElem?_cons_zero] at c3 c5 c10 d20
  rw [ht] at c10
  obtain ⟨ao, ic, e1, i1, i2, i3, i4⟩ := h.item_at
  rw [e1] at d20
  obtain ⟨gi, rfl, l1, x2, x3, x4, x0, x1⟩ := i4 t htl
  unfold maxLen at i2 i3
  have fz := h.fzQ
  have fn := h.fzN
  have hne := h.ne
  have HF : Hid (∀ W', Below W.heap.size W W' → (∀ k, W'.frozen? ⟨g, k, none⟩ = false) ∧ ∀ k, W'.frozen? ⟨gi, k, none⟩ = false) := by
    intro W' hb
    refine ⟨(h.below hb).fzQ, fun k => ?_⟩
    obtain ⟨ao', ic', e1', _, _, _, i4'⟩ := (h.below hb).item_at
    obtain ⟨gi', ea', _, _, _, y4, _⟩ := i4' t htl
    rw [e1, ea'] at e1'
    have : gi = gi' := by simp at e1'; exact e1'.1
    subst this
    exact y4 k
  have HE : Hid (∀ W', Below W.heap.size W W' → PF w B L v i g ((((W'.setCell ⟨g, i * 11 + 5, none⟩ (I (n.items[t]).2)).setCell ⟨gi, t * 2, none⟩ (I 2)).setCell ⟨gi, t * 2 + 1, none⟩ (I 0)).setCell ⟨g, i * 11 + 3, none⟩ (I 19)) { n with items := n.items.set t (2, 0) } { q with val := (n.items[t]).2, phase := 19 }) := by
    intro W' hb
    have s0 := (h.below hb).setQ 5 (by omega) (I (n.items[t]).2) { q with val := (n.items[t]).2 } rfl
    have s1 := s0.setI e1 t htl 0 (by omega) (I 2) (2, (n.items[t]).2) rfl
    have s2 := s1.setI (gi := gi) (cap := ic) (by show n.iv = _; rw [List.length_set]; exact e1) t (by simpa using htl) 1 (by omega) (I 0) (2, 0) (by simp only [List.getElem_set_self]; rfl)
    simp only [List.set_set] at s2
    exact s2.setQ 3 (by omega) (I 19) _ rfl
  have htl' : (t : Int) < (n.items.length : Int) := by omega
  rw [hr] at x0
  clear h ht e1 i4 hr
  generalize (n.items[t]).2 = vl0 at *
  generalize hil : n.items.length = il at *
  go_enter Tryz.func104, Tryz.ntmps104
  go_wp2_with fail
  go_quiet (fail)
  have hb : Below W.heap.size W (W.drewN nq) := Below.drewN' (Below.refl _ _) nq
  have k3 := (hb.cell (p := ⟨g, i * 11 + 3, none⟩) (cell_lt c3)).trans c3
  have k5 := (hb.cell (p := ⟨g, i * 11 + 5, none⟩) (cell_lt c3)).trans c5
  have k10 := (hb.cell (p := ⟨g, i * 11 + 10, none⟩) (cell_lt c3)).trans c10
  have k20 := (hb.cell (p := ⟨L.tb, 8 + v * 21 + 20, none⟩) (cell_lt d20)).trans d20
  have y0 := (hb.cell (p := ⟨gi, t * 2, none⟩) l1).trans x0
  have y1 := (hb.cell (p := ⟨gi, t * 2 + 1, none⟩) l1).trans x1
  have HE2 := HE.out _ hb
  replace HE2 : Hid _ := HE2
  have F := HF.out _ hb
  obtain ⟨F1, F2⟩ := F
  clear c3 c5 c10 d20 x0 x1 x4 fz fn HE HF hb l1
  generalize W.drewN nq = wq at *
  go_wp2_with fail
  go_region
  go_wp2_with fail
  go_region
  go_wp2_with fail
  go_end0
  exact ⟨rfl, HE2.out.drew.drew⟩
end

section
variable {w : World} {B : Nat} {L : PLay} {v i g : Nat} {W : World} {n : PN} {q : PP}

set_option maxHeartbeats 2000000 in
theorem atLeaf_ticket (h : PF w B L v i g W n q) (hph : q.phase = 12) {R : World → Prop}
    (hc : ∀ W', Below W.heap.size W W' → Calls Tryz.prog 101 #[.pointer (some ⟨g, i * 11, none⟩), .pointer (some ⟨L.tb, 8 + v * 21, none⟩)] W' fun e w' => e = .returned (.tuple #[]) ∧ R w') :
    Calls Tryz.prog 70 #[.pointer (some ⟨L.tb, 0, none⟩), .pointer (some ⟨g, i * 11, none⟩), .pointer (some ⟨L.tb, 8 + v * 21, none⟩)] W fun e w' => e = .returned (.tuple #[]) ∧ R w' := by
  have c3 := h.pcell 3 (by omega)
  simp only [ppCells, List.getElem?_cons_succ, List.getElem?_cons_zero] at c3
  rw [hph] at c3
  replace hc : Hid _ := hc
  clear h hph
  go_enter Tryz.func70, Tryz.ntmps70
  go_wp2_with fail
  refine Calls.mono (hc.out _ (Below.refl _ _)) ?_
  rintro e w1 ⟨rfl, hf⟩
  go_wp2_with fail
  go_end0
  exact ⟨rfl, hf⟩

set_option maxHeartbeats 2000000 in
theorem atLeaf_fetch (h : PF w B L v i g W n q) (hph : q.phase = 14) {R : World → Prop}
    (hc : ∀ W', Below W.heap.size W W' → Calls Tryz.prog 104 #[.pointer (some ⟨g, i * 11, none⟩), .pointer (some ⟨L.tb, 8 + v * 21, none⟩)] W' fun e w' => e = .returned (.tuple #[]) ∧ R w') :
    Calls Tryz.prog 70 #[.pointer (some ⟨L.tb, 0, none⟩), .pointer (some ⟨g, i * 11, none⟩), .pointer (some ⟨L.tb, 8 + v * 21, none⟩)] W fun e w' => e = .returned (.tuple #[]) ∧ R w' := by
  have c3 := h.pcell 3 (by omega)
  simp only [ppCells, List.getElem?_cons_succ, List.getElem?_cons_zero] at c3
  rw [hph] at c3
  replace hc : Hid _ := hc
  clear h hph
  go_enter Tryz.func70, Tryz.ntmps70
  go_wp2_with fail
  refine Calls.mono (hc.out _ (Below.refl _ _)) ?_
  rintro e w1 ⟨rfl, hf⟩
  go_wp2_with fail
  go_end0
  exact ⟨rfl, hf⟩

set_option maxHeartbeats 2000000 in
theorem atLeaf_store (h : PF w B L v i g W n q) (hv : q.node = (v : Int)) (hs0 : 0 ≤ L.c.slots) (hs4 : L.c.slots ≤ 4) (hd0 : 0 ≤ L.c.depth) (hd4 : L.c.depth ≤ 4) (hld : (Nat.log2 v : Int) ≤ L.c.depth) (hph : q.phase = 13) {R : World → Prop}
    (hc : ∀ W', Below W.heap.size W W' → Calls Tryz.prog 103 #[.pointer (some ⟨g, i * 11, none⟩), .pointer (some ⟨L.tb, 8 + v * 21, none⟩), I (roomOf L.c v)] W' fun e w' => e = .returned (.tuple #[]) ∧ R w') :
    Calls Tryz.prog 70 #[.pointer (some ⟨L.tb, 0, none⟩), .pointer (some ⟨g, i * 11, none⟩), .pointer (some ⟨L.tb, 8 + v * 21, none⟩)] W fun e w' => e = .returned (.tuple #[]) ∧ R w' := by
  obtain ⟨cap, c3, c4, c7, p1, p2, p3, p4, hi, hv32, fz, fn, hne, lN, lQ⟩ := h.facts
  rw [hph] at c3
  rw [hv] at c4
  have hr := fun W' (hb : Below W.heap.size W W') => room_c (h.rep.below hb) v (by omega) hs0 hs4 hd0 hd4 hld
  replace hr : Hid _ := hr
  replace hc : Hid _ := hc
  generalize L.procs.length = np at *
  clear h hph hv
  go_enter Tryz.func70, Tryz.ntmps70
  go_wp2_with fail
  first
  | refine Calls.mono (hr.out _ (Below.refl _ _)) ?_
  | (go_region_with (go_at_call 102; refine Calls.mono (hr.out _ (Below.refl _ _).drew) ?_))
  rintro e w1 ⟨rfl, hb⟩
  go_wp2_with fail
  refine Calls.mono (hc.out _ hb) ?_
  rintro e w2 ⟨rfl, hf⟩
  go_wp2_with fail
  go_end0
  exact ⟨rfl, hf⟩

set_option maxHeartbeats 2000000 in
theorem pstep_enter (h : PF w B L v i g W n q) (hv : q.node = (v : Int)) (hph : q.phase = 0) (draw : Int) (h0 : 0 ≤ n.inside) (h9 : n.inside ≤ 1000000) :
    Calls Tryz.prog 42 #[.pointer (some ⟨L.tb, 0, none⟩), I i, I draw] W fun e w' => e = .returned (.tuple #[]) ∧ PF w B L v i g w' { n with inside := n.inside + 1 } { q with phase := 1 } := by
  obtain ⟨cap, c3, c4, c7, p1, p2, p3, p4, hi, hv32, fz, fn, hne, lN, lQ⟩ := h.facts
  rw [hph] at c3
  rw [hv] at c4
  have d3 := h.ncell 3 (by omega)
  simp only [pnCells, List.getElem?_cons_succ, List.getElem?_cons_zero] at d3
  have HE : Hid (PF w B L v i g ((W.setCell ⟨L.tb, 8 + v * 21 + 3, none⟩ (I (n.inside + 1))).setCell ⟨g, i * 11 + 3, none⟩ (I 1)) { n with inside := n.inside + 1 } { q with phase := 1 }) :=
    (h.setN 3 (by omega) (I (n.inside + 1)) { n with inside := n.inside + 1 } rfl rfl rfl).setQ 3 (by omega) (I 1) _ rfl
  generalize L.procs.length = np at *
  clear h hph hv
  go_enter Tryz.func42, Tryz.ntmps42
  go_wp2_with fail
  go_region
  go_wp2
  go_end0
  exact ⟨rfl, HE.out.drew⟩

set_option maxHeartbeats 2000000 in
theorem pstep_back (h : PF w B L v i g W n q) (hv : q.node = (v : Int)) (hph : q.phase = 2) (draw : Int) (h0 : 0 ≤ n.inside) (h9 : n.inside ≤ 1000000) :
    Calls Tryz.prog 42 #[.pointer (some ⟨L.tb, 0, none⟩), I i, I draw] W fun e w' => e = .returned (.tuple #[]) ∧ PF w B L v i g w' { n with inside := n.inside - 1 } { q with phase := 0 } := by
  obtain ⟨cap, c3, c4, c7, p1, p2, p3, p4, hi, hv32, fz, fn, hne, lN, lQ⟩ := h.facts
  rw [hph] at c3
  rw [hv] at c4
  have d3 := h.ncell 3 (by omega)
  simp only [pnCells, List.getElem?_cons_succ, List.getElem?_cons_zero] at d3
  have HE : Hid (PF w B L v i g ((W.setCell ⟨L.tb, 8 + v * 21 + 3, none⟩ (I (n.inside - 1))).setCell ⟨g, i * 11 + 3, none⟩ (I 0)) { n with inside := n.inside - 1 } { q with phase := 0 }) :=
    (h.setN 3 (by omega) (I (n.inside - 1)) { n with inside := n.inside - 1 } rfl rfl rfl).setQ 3 (by omega) (I 0) _ rfl
  generalize L.procs.length = np at *
  clear h hph hv
  go_enter Tryz.func42, Tryz.ntmps42
  go_wp2_with fail
  go_region
  go_wp2
  go_end0
  exact ⟨rfl, HE.out.drew⟩

set_option maxHeartbeats 2000000 in
theorem pstep_leave (h : PF w B L v i g W n q) (hv : q.node = (v : Int)) (hph : q.phase = 19) (draw : Int) (h0 : 0 ≤ n.inside) (h9 : n.inside ≤ 1000000) :
    Calls Tryz.prog 42 #[.pointer (some ⟨L.tb, 0, none⟩), I i, I draw] W fun e w' => e = .returned (.tuple #[]) ∧ PF w B L v i g w' { n with inside := n.inside - 1 } (leavePP q) := by
  obtain ⟨cap, c3, c4, c7, p1, p2, p3, p4, hi, hv32, fz, fn, hne, lN, lQ⟩ := h.facts
  have hd := fun W' (hb : Below _ _ W') => leave_c ((h.setN 3 (by omega) (I (n.inside - 1)) { n with inside := n.inside - 1 } rfl rfl rfl).below (W' := W') hb) (by omega) (by omega)
  replace hd : Hid _ := hd
  rw [hph] at c3
  rw [hv] at c4
  have d3 := h.ncell 3 (by omega)
  simp only [pnCells, List.getElem?_cons_succ, List.getElem?_cons_zero] at d3
  generalize L.procs.length = np at *
  clear h hph hv
  go_enter Tryz.func42, Tryz.ntmps42
  go_wp2_with fail
  go_region
  go_wp2_with fail
  refine Calls.mono (hd.out _ (Below.refl _ _).drew) ?_
  rintro e w1 ⟨rfl, hf⟩
  go_wp2_with fail
  go_end0
  exact ⟨rfl, hf⟩

set_option maxHeartbeats 2000000 in
theorem pstep_look (h : PF w B L v i g W n q) (hv : q.node = (v : Int)) (hph : q.phase = 1) (draw : Int) {R : World → Prop}
    (hc : ∀ W', Below W.heap.size W W' → Calls Tryz.prog 67 #[.pointer (some ⟨g, i * 11, none⟩), .pointer (some ⟨L.tb, 8 + v * 21, none⟩)] W' fun e w' => e = .returned (.tuple #[]) ∧ R w') :
    Calls Tryz.prog 42 #[.pointer (some ⟨L.tb, 0, none⟩), I i, I draw] W fun e w' => e = .returned (.tuple #[]) ∧ R w' := by
  obtain ⟨cap, c3, c4, c7, p1, p2, p3, p4, hi, hv32, fz, fn, hne, lN, lQ⟩ := h.facts
  rw [hph] at c3
  rw [hv] at c4
  replace hc : Hid _ := hc
  generalize L.procs.length = np at *
  clear h hph hv
  go_enter Tryz.func42, Tryz.ntmps42
  go_wp2_with fail
  go_region
  go_wp2_with fail
  refine Calls.mono (hc.out _ (Below.refl _ _).drew) ?_
  rintro e w1 ⟨rfl, hf⟩
  go_wp2_with fail
  go_end0
  exact ⟨rfl, hf⟩

set_option maxHeartbeats 2000000 in
theorem pstep_toggle (h : PF w B L v i g W n q) (hv : q.node = (v : Int)) (hph : q.phase = 11) (draw : Int) {R : World → Prop}
    (hc : ∀ W', Below W.heap.size W W' → Calls Tryz.prog 69 #[.pointer (some ⟨g, i * 11, none⟩), .pointer (some ⟨L.tb, 8 + v * 21, none⟩)] W' fun e w' => e = .returned (.tuple #[]) ∧ R w') :
    Calls Tryz.prog 42 #[.pointer (some ⟨L.tb, 0, none⟩), I i, I draw] W fun e w' => e = .returned (.tuple #[]) ∧ R w' := by
  obtain ⟨cap, c3, c4, c7, p1, p2, p3, p4, hi, hv32, fz, fn, hne, lN, lQ⟩ := h.facts
  rw [hph] at c3
  rw [hv] at c4
  replace hc : Hid _ := hc
  generalize L.procs.length = np at *
  clear h hph hv
  go_enter Tryz.func42, Tryz.ntmps42
  go_wp2_with fail
  go_region
  go_wp2_with fail
  refine Calls.mono (hc.out _ (Below.refl _ _).drew) ?_
  rintro e w1 ⟨rfl, hf⟩
  go_wp2_with fail
  go_end0
  exact ⟨rfl, hf⟩

set_option maxHeartbeats 4000000 in
theorem pstep_slot (h : PF w B L v i g W n q) (hv : q.node = (v : Int)) (hph : q.phase = 3 ∨ q.phase = 4 ∨ q.phase = 5 ∨ q.phase = 6 ∨ q.phase = 7 ∨ q.phase = 8 ∨ q.phase = 9 ∨ q.phase = 10) (draw : Int) {R : World → Prop}
    (hc : ∀ W', Below W.heap.size W W' → Calls Tryz.prog 68 #[.pointer (some ⟨L.tb, 0, none⟩), I i, I draw] W' fun e w' => e = .returned (.tuple #[]) ∧ R w') :
    Calls Tryz.prog 42 #[.pointer (some ⟨L.tb, 0, none⟩), I i, I draw] W fun e w' => e = .returned (.tuple #[]) ∧ R w' := by
  obtain ⟨cap, c3, c4, c7, p1, p2, p3, p4, hi, hv32, fz, fn, hne, lN, lQ⟩ := h.facts
  rw [hv] at c4
  replace hc : Hid _ := hc
  generalize L.procs.length = np at *
  clear h hv
  rcases hph with hph | hph | hph | hph | hph | hph | hph | hph
  all_goals
    rw [hph] at c3
    clear hph
    go_enter Tryz.func42, Tryz.ntmps42
    go_wp2_with fail
    go_region
    go_wp2_with fail
    refine Calls.mono (hc.out _ (Below.refl _ _).drew) ?_
    rintro e w1 ⟨rfl, hf⟩
    go_wp2_with fail
    go_end0
    exact ⟨rfl, hf⟩

set_option maxHeartbeats 4000000 in
theorem pstep_leaf (h : PF w B L v i g W n q) (hv : q.node = (v : Int)) (hph : q.phase = 12 ∨ q.phase = 13 ∨ q.phase = 14) (draw : Int) {R : World → Prop}
    (hc : ∀ W', Below W.heap.size W W' → Calls Tryz.prog 70 #[.pointer (some ⟨L.tb, 0, none⟩), .pointer (some ⟨g, i * 11, none⟩), .pointer (some ⟨L.tb, 8 + v * 21, none⟩)] W' fun e w' => e = .returned (.tuple #[]) ∧ R w') :
    Calls Tryz.prog 42 #[.pointer (some ⟨L.tb, 0, none⟩), I i, I draw] W fun e w' => e = .returned (.tuple #[]) ∧ R w' := by
  obtain ⟨cap, c3, c4, c7, p1, p2, p3, p4, hi, hv32, fz, fn, hne, lN, lQ⟩ := h.facts
  rw [hv] at c4
  replace hc : Hid _ := hc
  generalize L.procs.length = np at *
  clear h hv
  rcases hph with hph | hph | hph
  all_goals
    rw [hph] at c3
    clear hph
    go_enter Tryz.func42, Tryz.ntmps42
    go_wp2_with fail
    go_region
    go_wp2_with fail
    refine Calls.mono (hc.out _ (Below.refl _ _).drew) ?_
    rintro e w1 ⟨rfl, hf⟩
    go_wp2_with fail
    go_end0
    exact ⟨rfl, hf⟩

set_option maxHeartbeats 4000000 in
theorem pStep_ok (h : PF w B L v i g W n q) (hph : q.phase ≠ 20) (draw : Int) {R : PN → PP → Prop}
    (hc : ∀ W', Below W.heap.size W W' → Calls Tryz.prog 42 #[.pointer (some ⟨L.tb, 0, none⟩), I i, I draw] W' fun e w' => e = .returned (.tuple #[]) ∧ ∃ n' q', PF w B L v i g w' n' q' ∧ R n' q') :
    Calls Tryz.prog 22 #[.pointer (some ⟨L.tb, 0, none⟩), I i, I draw] W fun e w' => ∃ n' q', e = .returned (.tuple #[I q'.phase, I 0]) ∧ PF w B L v i g w' n' q' ∧ R n' q' := by
  obtain ⟨cap, c3, c4, c7, p1, p2, p3, p4, hi, hv32, fz, fn, hne, lN, lQ⟩ := h.facts
  have b1 : (q.phase == 20) = false := by simp [hph]
  have hi0 : decide ((i : Int) < 0) = false := by simp
  have HF : Hid (∀ w' n' q', PF w B L v i g w' n' q' → ∃ cap, w'.cell? ⟨g, i * 11 + 3, none⟩ = some (I q'.phase) ∧ w'.cell? ⟨L.tb, 680, none⟩ = some (.slice (some ⟨g, 0, none⟩) L.procs.length cap) ∧ L.procs.length ≤ cap ∧ L.procs.length ≤ 2 ^ 63 - 1 ∧ cap ≤ 2 ^ 63 - 1) := by
    intro w' n' q' hf
    obtain ⟨cap', p1', p2', p3', p4'⟩ := hf.pv
    exact ⟨cap', hf.pcell 3 (by omega), p1', p2', p3', p4'⟩
  replace hc : Hid _ := hc
  generalize L.procs.length = np at *
  clear h hph
  go_enter Tryz.func22, Tryz.ntmps22
  go_wp2_with fail
  refine Calls.mono (hc.out _ (Below.refl _ _)) ?_
  rintro e w1 ⟨rfl, n', q', hf, hR⟩
  obtain ⟨cap', e3, e680, e1, e2, e4⟩ := HF.out _ _ _ hf
  clear hc HF c3 c4 c7 p1 fz fn lN lQ
  replace hf : Hid _ := hf
  replace hR : Hid _ := hR
  go_wp2
  go_ret2
  exact ⟨n', q', rfl, hf.out, hR.out⟩

set_option maxHeartbeats 2000000 in
theorem pStep_done (h : PF w B L v i g W n q) (hph : q.phase = 20) (draw : Int) :
    Calls Tryz.prog 22 #[.pointer (some ⟨L.tb, 0, none⟩), I i, I draw] W fun e w' => e = .returned (.tuple #[I 0, I 5]) ∧ Below W.heap.size W w' := by
  obtain ⟨cap, c3, c4, c7, p1, p2, p3, p4, hi, hv32, fz, fn, hne, lN, lQ⟩ := h.facts
  rw [hph] at c3
  have hi0 : decide ((i : Int) < 0) = false := by simp
  generalize L.procs.length = np at *
  clear h hph
  go_enter Tryz.func22, Tryz.ntmps22
  go_wp2
  go_ret2
  exact ⟨rfl, Below.refl _ _⟩
end

set_option maxHeartbeats 2000000 in
theorem pStep_none {W : World} {B : Nat} {L : PLay} (h : PRep W B L) (p : Int) (hp : p < 0 ∨ (L.procs.length : Int) ≤ p) (draw : Int) :
    Calls Tryz.prog 22 #[.pointer (some ⟨L.tb, 0, none⟩), I p, I draw] W fun e w' => e = .returned (.tuple #[I 0, I 5]) ∧ Below W.heap.size W w' := by
  have p1 := h.pcell
  obtain ⟨ao, cap, e1, q1, q2, q3, hx⟩ := h.pp_at
  rw [e1] at p1
  unfold maxLen at q2 q3
  clear h hx e1
  generalize L.procs.length = np at *
  by_cases h0 : p < 0
  · clear hp
    go_enter Tryz.func22, Tryz.ntmps22
    go_wp2
    go_ret2
    exact ⟨rfl, Below.refl _ _⟩
  · have hd : decide (p < 0) = false := by simp; omega
    have hge : (np : Int) ≤ p := by omega
    clear hp
    go_enter Tryz.func22, Tryz.ntmps22
    go_wp2
    go_ret2
    exact ⟨rfl, Below.refl _ _⟩

end Go.Proofs.YtjnmpejcegmkhaaGreatDoor
