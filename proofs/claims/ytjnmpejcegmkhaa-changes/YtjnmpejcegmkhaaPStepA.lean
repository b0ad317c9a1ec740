/- What a step of the program may write: a node and a process. Contracts of the program's small steps: descend, leave, look, turn, modulo, lookAtSlot, wait, wider, narrower. Contracts of the program's steps at a slot: lookAtSlot, wait, wider, narrower, settle, claim, meet. No statement of the seat is proved here. -/
import Derived.Test.YtjnmpejcegmkhaaProgSpawn3
import Derived.Laws.OwnMore
import Derived.Test.YtjnmpejcegmkhaaRefStep0
namespace Go.Proofs.Ytjnmpejcegmkhaa
open Go.RowKit

theorem ChgT.cell {B : Nat} {T : List TypeId} {w : World} {b : Nat} {cs : Array Value} {Ty : TypeId} (hb : w.heap[b]? = some (.cells cs Ty (0, 0))) (hB : B ≤ b) (hT : Ty ∈ T) (j : Nat) (x : Value) : ChgT B T w (w.setCell ⟨b, j, none⟩ x) := by
  refine ⟨rfl, rfl, rfl, by simp [World.setCell], fun k _ hc => Below.heap_setCell _ _ _ _ ?_⟩
  intro e
  subst e
  rcases hc with hc | hc
  · exact absurd hc (by show ¬ _ < _; simp; omega)
  · exact hc _ _ _ hb hT

theorem flat_set {α : Type} (f : α → List Value) (s : Nat) (hs : ∀ x, (f x).length = s) (l : List α) (k : Nat) (hk : k < l.length) (j : Nat) (hj : j < s) (x : Value) (y : α) (he : f y = (f l[k]).set j x) : (l.flatMap f).set (k * s + j) x = (l.set k y).flatMap f := by
  obtain ⟨h1, h2⟩ := flat_split f l k hk y
  have hl : ((l.take k).flatMap f).length = k * s := by rw [flat_length f s hs, List.length_take, Nat.min_eq_left (by omega)]
  rw [h1, h2, List.set_append_right _ _ (by omega), hl, show k * s + j - k * s = j from by omega, List.set_append_left _ _ (by rw [hs]; exact hj), he]

theorem PRep.setN {w : World} {B : Nat} {L : PLay} (h : PRep w B L) (v : Nat) (hv : v < L.nodes.length) (j : Nat) (hj : j < 20) (x : Value) (n' : PN) (he : pnCells n' = (pnCells L.nodes[v]).set j x) (hiv : n'.iv = (L.nodes[v]).iv) (hit : n'.items = (L.nodes[v]).items) :
    PRep (w.setCell ⟨L.tb, 8 + v * 21 + j, none⟩ x) B { L with nodes := L.nodes.set v n' } where
  tree := by
    rw [nb_set h.tree]
    congr 2
    have h1 : (pConf L.c).length = 8 := rfl
    show (pTree L).toArray.setIfInBounds _ _ = _
    rw [List.setIfInBounds_toArray]
    congr 1
    show (pConf L.c ++ (L.nodes.flatMap pnCells ++ [L.pv])).set (8 + v * 21 + j) x = pConf L.c ++ ((L.nodes.set v n').flatMap pnCells ++ [L.pv])
    rw [List.set_append_right _ _ (by omega), List.set_append_left _ _ (by rw [flat_length pnCells 21 pn_len]; omega), h1, show 8 + v * 21 + j - 8 = v * 21 + j from by omega, flat_set pnCells 21 pn_len L.nodes v hv j (by omega) x n' he]
  treeB := h.treeB
  len := by simpa using h.len
  prow := ownsRow_setCell_type h.prow h.tree (by decide) _ _
  items := fun u hu' => by
    have hu : u < L.nodes.length := by simpa using hu'
    by_cases e : u = v
    · subst e
      simp only [List.getElem_set_self]
      rw [hiv, hit]
      exact ownsRow_setCell_type (h.items u hu) h.tree (by decide) _ _
    · simp only [List.getElem_set_ne (Ne.symm e)]
      exact ownsRow_setCell_type (h.items u hu) h.tree (by decide) _ _
  ind := fun a b ha hb g e1 e2 => by
    have ha' : a < L.nodes.length := by simpa using ha
    have hb' : b < L.nodes.length := by simpa using hb
    have key : ∀ u, (hu : u < L.nodes.length) → (hu' : u < (L.nodes.set v n').length) → ((L.nodes.set v n')[u]).iv = (L.nodes[u]).iv := by
      intro u hu hu'
      by_cases e : u = v
      · subst e; simp only [List.getElem_set_self]; exact hiv
      · simp only [List.getElem_set_ne (Ne.symm e)]
    rw [key a ha' ha] at e1
    rw [key b hb' hb] at e2
    exact h.ind a b ha' hb' g e1 e2

theorem PRep.setQ {w : World} {B : Nat} {L : PLay} (h : PRep w B L) {g cap : Nat} (hpv : L.pv = .slice (some ⟨g, 0, none⟩) L.procs.length cap) (i : Nat) (hi : i < L.procs.length) (j : Nat) (hj : j < 11) (x : Value) (q' : PP) (he : ppCells q' = (ppCells L.procs[i]).set j x) :
    PRep (w.setCell ⟨g, i * 11 + j, none⟩ x) B { L with procs := L.procs.set i q' } := by
  have hr := h.prow
  rw [hpv] at hr
  obtain ⟨cur, hb⟩ := ownsRow_block hr (g := g) rfl
  obtain ⟨hr', _⟩ := hr.stored (i * 11 + j) x
  rw [flat_set ppCells 11 pp_len L.procs i hi j hj x q' he] at hr'
  refine ⟨?_, h.treeB, h.len, ?_, fun v hv => ownsRow_setCell_type (h.items v hv) hb (by decide) _ _, h.ind⟩
  · show (w.setCell _ x).heap[L.tb]? = _
    rw [Below.heap_setCell _ _ _ _ (by intro e; have := h.tree; rw [e] at this; simp only at this; rw [hb] at this; simp at this)]
    exact h.tree
  · show (w.setCell _ x).ownsRow B _ 11 L.pv (L.procs.set i q').length _
    rw [List.length_set, hpv]
    exact hr'

abbrev PLay.foc (L : PLay) (v : Nat) (n : PN) (i : Nat) (q : PP) : PLay := { L with nodes := L.nodes.set v n, procs := L.procs.set i q }

/-- In the midst of a step: node v is n, process i is q, all else is as it was. -/
structure PF (w : World) (B : Nat) (L : PLay) (v i g : Nat) (W : World) (n : PN) (q : PP) : Prop where
  rep : PRep W B (L.foc v n i q)
  chg : ChgT B [78, 119, 135] w W
  hv : v < L.nodes.length
  hi : i < L.procs.length
  hg : ∃ cap, L.pv = .slice (some ⟨g, 0, none⟩) L.procs.length cap ∧ L.procs.length ≤ cap ∧ cap ≤ maxLen

theorem PF.start {w : World} {B : Nat} {L : PLay} (h : PRep w B L) {v : Nat} (hv : v < L.nodes.length) {i : Nat} (hi : i < L.procs.length) : ∃ g, PF w B L v i g w L.nodes[v] L.procs[i] := by
  obtain ⟨ao, cap, e1, q1, q2, q3, hx⟩ := h.pp_at
  obtain ⟨g, rfl, _⟩ := hx i hi
  exact ⟨g, by unfold PLay.foc; rw [List.set_getElem_self, List.set_getElem_self]; exact h, ChgT.of_below (Below.refl _ _), hv, hi, cap, e1, q1, q3⟩

section
variable {w : World} {B : Nat} {L : PLay} {v i g : Nat} {W : World} {n : PN} {q : PP}

theorem PF.node_at (_h : PF w B L v i g W n q) (hv' : v < (L.foc v n i q).nodes.length) : (L.foc v n i q).nodes[v] = n := by simp
theorem PF.proc_at (_h : PF w B L v i g W n q) (hi' : i < (L.foc v n i q).procs.length) : (L.foc v n i q).procs[i] = q := by simp

theorem PF.ncell (h : PF w B L v i g W n q) (j : Nat) (hj : j < 21) : W.cell? ⟨L.tb, 8 + v * 21 + j, none⟩ = (pnCells n)[j]? := by
  have hv' : v < (L.foc v n i q).nodes.length := by simpa [PLay.foc] using h.hv
  have := h.rep.ncell v hv' j hj
  rw [h.node_at hv'] at this
  exact this

theorem PF.pcell (h : PF w B L v i g W n q) (j : Nat) (hj : j < 11) : W.cell? ⟨g, i * 11 + j, none⟩ = (ppCells q)[j]? := by
  have hi' : i < (L.foc v n i q).procs.length := by simpa [PLay.foc] using h.hi
  obtain ⟨ao, cap, e1, _, _, _, hx⟩ := h.rep.pp_at
  obtain ⟨g', e2, f⟩ := hx i hi'
  obtain ⟨cap', e3, _⟩ := h.hg
  have e4 : L.pv = .slice ao (L.foc v n i q).procs.length cap := e1
  rw [e3, e2] at e4
  have : g = g' := by simp at e4; exact e4.1
  subst this
  have := f j hj
  rw [h.proc_at hi'] at this
  exact this

theorem PF.other (h : PF w B L v i g W n q) (k : Nat) (hk : k < L.procs.length) (hne : k ≠ i) (j : Nat) (hj : j < 11) : W.cell? ⟨g, k * 11 + j, none⟩ = (ppCells L.procs[k])[j]? := by
  have hk' : k < (L.foc v n i q).procs.length := by simpa [PLay.foc] using hk
  obtain ⟨ao, cap, e1, _, _, _, hx⟩ := h.rep.pp_at
  obtain ⟨g', e2, f⟩ := hx k hk'
  obtain ⟨cap', e3, _⟩ := h.hg
  have e4 : L.pv = .slice ao (L.foc v n i q).procs.length cap := e1
  rw [e3, e2] at e4
  have : g = g' := by simp at e4; exact e4.1
  subst this
  have := f j hj
  rw [show (L.foc v n i q).procs[k] = L.procs[k] from by show (L.procs.set i q)[k] = _; rw [List.getElem_set_ne (Ne.symm hne)]] at this
  exact this

theorem PF.blkN (h : PF w B L v i g W n q) : W.heap[L.tb]? = some (.cells (pTree (L.foc v n i q)).toArray 78 (0, 0)) := h.rep.tree
theorem PF.blkQ (h : PF w B L v i g W n q) : ∃ cur, W.heap[g]? = some (.cells cur 119 (0, 0)) ∧ B ≤ g := by
  obtain ⟨cap, e, _⟩ := h.hg
  have hr := h.rep.prow
  have e' : (L.foc v n i q).pv = .slice (some ⟨g, 0, none⟩) L.procs.length cap := e
  rw [e'] at hr
  obtain ⟨cur, hb⟩ := ownsRow_block hr (g := g) rfl
  exact ⟨cur, hb, (hr.lt g rfl).1⟩
theorem PF.fzN (h : PF w B L v i g W n q) (k : Nat) : W.frozen? ⟨L.tb, k, none⟩ = false := (nb_facts h.blkN).2 k
theorem PF.fzQ (h : PF w B L v i g W n q) (k : Nat) : W.frozen? ⟨g, k, none⟩ = false := by
  obtain ⟨cur, hb, _⟩ := h.blkQ
  exact (nb_facts hb).2 k
theorem PF.ltN (h : PF w B L v i g W n q) : L.tb < W.heap.size := h.rep.size
theorem PF.ne (h : PF w B L v i g W n q) : L.tb ≠ g := by
  intro e
  obtain ⟨cur, hb, _⟩ := h.blkQ
  have := h.blkN
  rw [e, hb] at this
  simp at this

theorem PF.setN (h : PF w B L v i g W n q) (j : Nat) (hj : j < 20) (x : Value) (n' : PN) (he : pnCells n' = (pnCells n).set j x) (hiv : n'.iv = n.iv) (hit : n'.items = n.items) : PF w B L v i g (W.setCell ⟨L.tb, 8 + v * 21 + j, none⟩ x) n' q := by
  have hv' : v < (L.foc v n i q).nodes.length := by simpa [PLay.foc] using h.hv
  have hn := h.node_at hv'
  refine ⟨?_, h.chg.trans (ChgT.cell h.blkN h.rep.treeB (by simp) _ _), h.hv, h.hi, h.hg⟩
  have := h.rep.setN v hv' j hj x n' (by rw [hn]; exact he) (by rw [hn]; exact hiv) (by rw [hn]; exact hit)
  simp only [List.set_set] at this
  exact this

theorem PF.setQ (h : PF w B L v i g W n q) (j : Nat) (hj : j < 11) (x : Value) (q' : PP) (he : ppCells q' = (ppCells q).set j x) : PF w B L v i g (W.setCell ⟨g, i * 11 + j, none⟩ x) n q' := by
  have hi' : i < (L.foc v n i q).procs.length := by simpa [PLay.foc] using h.hi
  have hq := h.proc_at hi'
  obtain ⟨cap, e, c1, c2⟩ := h.hg
  obtain ⟨cur, hb, hB⟩ := h.blkQ
  refine ⟨?_, h.chg.trans (ChgT.cell hb hB (by simp) _ _), h.hv, h.hi, h.hg⟩
  have hpv : (L.foc v n i q).pv = .slice (some ⟨g, 0, none⟩) (L.foc v n i q).procs.length cap := by simpa [PLay.foc] using e
  have := h.rep.setQ hpv i hi' j hj x q' (by rw [hq]; exact he)
  simp only [List.set_set] at this
  exact this

theorem PF.below (h : PF w B L v i g W n q) {W' : World} (hb : Below W.heap.size W W') : PF w B L v i g W' n q :=
  ⟨h.rep.below hb, h.chg.trans (ChgT.of_below hb), h.hv, h.hi, h.hg⟩
theorem PF.drew (h : PF w B L v i g W n q) : PF w B L v i g W.drew n q := h.below (Below.refl _ _).drew
end

section
variable {w : World} {B : Nat} {L : PLay} {v i g : Nat} {W : World} {n : PN} {q : PP}

abbrev downPP (q : PP) (b : Int) : PP := { q with node := 2 * q.node + b, phase := 0 }

set_option maxHeartbeats 1000000 in
theorem descend_c (h : PF w B L v i g W n q) (hn0 : 0 ≤ q.node) (hn : q.node ≤ 1000000) (b : Int) (hb0 : 0 ≤ b) (hb : b ≤ 1) :
    Calls Try.prog 131 #[.pointer (some ⟨g, i * 11, none⟩), I b] W fun e w' => e = .returned (.tuple #[]) ∧ PF w B L v i g w' n (downPP q b) := by
  have c3 := h.pcell 3 (by omega)
  have c4 := h.pcell 4 (by omega)
  have fz := h.fzQ
  simp only [ppCells, List.getElem?_cons_succ, List.getElem?_cons_zero] at c3 c4
  have HE : Hid (PF w B L v i g ((W.setCell ⟨g, i * 11 + 4, none⟩ (I (2 * q.node + b))).setCell ⟨g, i * 11 + 3, none⟩ (I 0)) n (downPP q b)) :=
    (h.setQ 4 (by omega) (I (2 * q.node + b)) { q with node := 2 * q.node + b } rfl).setQ 3 (by omega) (I 0) (downPP q b) rfl
  clear h
  go_enter Try.func131, Try.ntmps131
  go_wp2
  go_end0
  exact ⟨rfl, HE.out⟩

abbrev leavePP (q : PP) : PP := { q with node := q.node / 2, phase := if q.node / 2 = 0 then 20 else 19 }

set_option maxHeartbeats 1000000 in
theorem leave_c (h : PF w B L v i g W n q) (hn0 : 0 ≤ q.node) (hn : q.node ≤ 1000000) :
    Calls Try.prog 104 #[.pointer (some ⟨g, i * 11, none⟩)] W fun e w' => e = .returned (.tuple #[]) ∧ PF w B L v i g w' n (leavePP q) := by
  have c3 := h.pcell 3 (by omega)
  have c4 := h.pcell 4 (by omega)
  have fz := h.fzQ
  simp only [ppCells, List.getElem?_cons_succ, List.getElem?_cons_zero] at c3 c4
  have hdiv : Int.tdiv q.node 2 = q.node / 2 := Int.tdiv_eq_ediv_of_nonneg hn0
  by_cases h0 : q.node / 2 = 0
  · have b1 : (q.node / 2 == 0) = true := by simp [h0]
    have HE : Hid (PF w B L v i g ((W.setCell ⟨g, i * 11 + 4, none⟩ (I (q.node / 2))).setCell ⟨g, i * 11 + 3, none⟩ (I 20)) n (leavePP q)) :=
      (h.setQ 4 (by omega) (I (q.node / 2)) { q with node := q.node / 2 } rfl).setQ 3 (by omega) (I 20) (leavePP q) (by simp [ppCells, h0])
    clear h h0
    go_enter Try.func104, Try.ntmps104
    go_wp2
    go_end0
    exact ⟨rfl, HE.out⟩
  · have b1 : (q.node / 2 == 0) = false := by simp [h0]
    have HE : Hid (PF w B L v i g ((W.setCell ⟨g, i * 11 + 4, none⟩ (I (q.node / 2))).setCell ⟨g, i * 11 + 3, none⟩ (I 19)) n (leavePP q)) :=
      (h.setQ 4 (by omega) (I (q.node / 2)) { q with node := q.node / 2 } rfl).setQ 3 (by omega) (I 19) (leavePP q) (by simp [ppCells, h0])
    clear h h0
    go_enter Try.func104, Try.ntmps104
    go_wp2
    go_end0
    exact ⟨rfl, HE.out⟩

set_option maxHeartbeats 1000000 in
theorem turn_c (h : PF w B L v i g W n q) (hn0 : 0 ≤ q.node) (hn : q.node ≤ 1000000) (ht : n.toggle = 0 ∨ n.toggle = 1) :
    Calls Try.prog 101 #[.pointer (some ⟨g, i * 11, none⟩), .pointer (some ⟨L.tb, 8 + v * 21, none⟩)] W fun e w' => e = .returned (.tuple #[]) ∧ PF w B L v i g w' { n with toggle := 1 - n.toggle } (downPP q (if q.kind = 2 then 1 - n.toggle else n.toggle)) := by
  have c0 := h.pcell 0 (by omega)
  have d4 := h.ncell 4 (by omega)
  have fz := h.fzQ
  have fn := h.fzN
  have hne := h.ne
  simp only [ppCells, pnCells, List.getElem?_cons_succ, List.getElem?_cons_zero, Nat.add_zero] at c0 d4
  have h1 := h.setN 4 (by omega) (I (1 - n.toggle)) { n with toggle := 1 - n.toggle } rfl rfl rfl
  have HD : Hid (∀ b : Int, 0 ≤ b → b ≤ 1 → _) := fun (b : Int) (h0 : 0 ≤ b) (hb : b ≤ 1) => descend_c h1 hn0 hn b h0 hb
  by_cases hk : q.kind = 2
  · have b1 : (q.kind == 2) = true := by simp [hk]
    rw [if_pos hk]
    clear h h1 hk
    have hd := HD.out (1 - n.toggle) (by omega) (by omega)
    replace hd : Hid _ := hd
    generalize n.toggle = tg at *
    go_enter Try.func101, Try.ntmps101
    go_wp2_with fail
    refine Calls.mono hd.out ?_
    rintro e w1 ⟨rfl, hf⟩
    go_wp2_with fail
    go_end0
    exact ⟨rfl, hf⟩
  · have b1 : (q.kind == 2) = false := by simp [hk]
    rw [if_neg hk]
    clear h h1 hk
    have hd := HD.out n.toggle (by omega) (by omega)
    replace hd : Hid _ := hd
    go_enter Try.func101, Try.ntmps101
    go_wp2_with fail
    refine Calls.mono hd.out ?_
    rintro e w1 ⟨rfl, hf⟩
    go_wp2_with fail
    go_end0
    exact ⟨rfl, hf⟩

abbrev lookPP (n : PN) (q : PP) : PP := { q with phase := if n.shut = true then 2 else if n.inner = true then 3 else 12 }

set_option maxHeartbeats 2000000 in
theorem plook_walk (h : PF w B L v i g W n q) (hk : q.kind < 3) :
    Calls Try.prog 99 #[.pointer (some ⟨g, i * 11, none⟩), .pointer (some ⟨L.tb, 8 + v * 21, none⟩)] W fun e w' => e = .returned (.tuple #[]) ∧ PF w B L v i g w' n (lookPP n q) := by
  have c0 := h.pcell 0 (by omega)
  have c1 := h.pcell 1 (by omega)
  have c2 := h.pcell 2 (by omega)
  have c3 := h.pcell 3 (by omega)
  have d1 := h.ncell 1 (by omega)
  have d2 := h.ncell 2 (by omega)
  have fz := h.fzQ
  simp only [ppCells, pnCells, List.getElem?_cons_succ, List.getElem?_cons_zero, Nat.add_zero] at c0 c1 c2 c3 d1 d2
  have hch : isChange ⟨q.kind, q.oval, q.onode⟩ = false := by
    unfold isChange
    have a1 : ¬ (q.kind = 3) := by omega
    have a2 : ¬ (q.kind = 4) := by omega
    simp [a1, a2]
  have hc := fun W => pchanges_c ⟨q.kind, q.oval, q.onode⟩ W
  rw [hch] at hc
  unfold opV at hc
  simp only at hc
  replace hc : Hid _ := hc
  cases hs : n.shut with
  | true =>
    have HE : Hid (PF w B L v i g (W.setCell ⟨g, i * 11 + 3, none⟩ (I 2)) n (lookPP n q)) := h.setQ 3 (by omega) (I 2) (lookPP n q) (by simp [ppCells, hs])
    rw [hs] at d2
    clear h hs hch
    go_enter Try.func99, Try.ntmps99
    go_wp2
    go_end0
    exact ⟨rfl, HE.out⟩
  | false =>
    cases hin : n.inner with
    | true =>
      have HE : Hid (∀ W', Below W.heap.size W W' → PF w B L v i g (W'.setCell ⟨g, i * 11 + 3, none⟩ (I 3)) n (lookPP n q)) := fun W' hb => (h.below hb).setQ 3 (by omega) (I 3) (lookPP n q) (by simp [ppCells, hs, hin])
      have HF : Hid (∀ W', Below W.heap.size W W' → W'.cell? ⟨g, i * 11 + 3, none⟩ = some (I q.phase) ∧ W'.frozen? ⟨g, i * 11 + 3, none⟩ = false ∧ W'.cell? ⟨L.tb, 8 + v * 21 + 1, none⟩ = some (.bool n.inner)) := fun W' hb => ⟨(h.below hb).pcell 3 (by omega), (h.below hb).fzQ _, (h.below hb).ncell 1 (by omega)⟩
      rw [hs] at d2
      rw [hin] at d1 HF
      clear h hs hch hin
      go_enter Try.func99, Try.ntmps99
      go_wp2_with fail
      refine Calls.mono (hc.out _) ?_
      rintro e w1 ⟨rfl, hb⟩
      obtain ⟨g1, g2, g3⟩ := HF.out w1 hb
      clear c0 c1 c2 c3 d1 d2 fz hc
      go_wp2
      go_end0
      exact ⟨rfl, HE.out _ hb⟩
    | false =>
      have HE : Hid (∀ W', Below W.heap.size W W' → PF w B L v i g (W'.setCell ⟨g, i * 11 + 3, none⟩ (I 12)) n (lookPP n q)) := fun W' hb => (h.below hb).setQ 3 (by omega) (I 12) (lookPP n q) (by simp [ppCells, hs, hin])
      have HF : Hid (∀ W', Below W.heap.size W W' → W'.cell? ⟨g, i * 11 + 3, none⟩ = some (I q.phase) ∧ W'.frozen? ⟨g, i * 11 + 3, none⟩ = false ∧ W'.cell? ⟨L.tb, 8 + v * 21 + 1, none⟩ = some (.bool n.inner)) := fun W' hb => ⟨(h.below hb).pcell 3 (by omega), (h.below hb).fzQ _, (h.below hb).ncell 1 (by omega)⟩
      rw [hs] at d2
      rw [hin] at d1 HF
      clear h hs hch hin
      go_enter Try.func99, Try.ntmps99
      go_wp2_with fail
      refine Calls.mono (hc.out _) ?_
      rintro e w1 ⟨rfl, hb⟩
      obtain ⟨g1, g2, g3⟩ := HF.out w1 hb
      clear c0 c1 c2 c3 d1 d2 fz hc
      go_wp2
      go_end0
      exact ⟨rfl, HE.out _ hb⟩

end

set_option maxHeartbeats 1000000 in
theorem modulo_c (x : Int) (m : Nat) (hm : 1 ≤ m) (hm4 : m ≤ 1000) (w : World) :
    Calls Try.prog 89 #[I x, I m] w fun e w' => e = .returned (I (x % m)) ∧ w' = w := by
  have ht := tmod_twice x m (by omega)
  have hlt := Int.tmod_lt_of_pos x (by omega : (0 : Int) < m)
  have hge : -(m : Int) < x.tmod m := by
    rcases Int.le_total 0 x with hx | hx
    · have := Int.tmod_nonneg (m : Int) hx; omega
    · have h2 : (-x).tmod m = -(x.tmod m) := Int.neg_tmod x m
      have h3 := Int.tmod_lt_of_pos (-x) (by omega : (0 : Int) < m)
      omega
  have h3 : (x.tmod m + m).tmod m = (x.tmod m + m) % m := Int.tmod_eq_emod_of_nonneg (by omega)
  rw [h3] at ht
  have HV : Hid (x % (m : Int) = if Int.tmod x m < 0 then Int.tmod x m + m else Int.tmod x m) := by
    show _ = _
    rw [← ht]
    by_cases c : Int.tmod x m < 0
    · rw [if_pos c, Int.emod_eq_of_lt (by omega) (by omega)]
    · rw [if_neg c, Int.add_emod_right, Int.emod_eq_of_lt (by omega) (by omega)]
  have hne : ((m : Int) == 0) = false := by simp; omega
  have hl1 : decide ((m : Int) < 1) = false := by simp; omega
  clear ht h3
  by_cases hneg : Int.tmod x m < 0
  · have HR : Hid (x % (m : Int) = Int.tmod x m + m) := by have := HV.out; rw [if_pos hneg] at this; exact this
    clear HV
    go_enter Try.func89, Try.ntmps89
    go_wp2
    go_ret
    exact ⟨ret_i HR.out.symm, rfl⟩
  · have HR : Hid (x % (m : Int) = Int.tmod x m) := by have := HV.out; rw [if_neg hneg] at this; exact this
    have hn2 : decide (Int.tmod x m < 0) = false := by simp; omega
    clear HV
    go_enter Try.func89, Try.ntmps89
    go_wp2
    go_ret
    exact ⟨ret_i HR.out.symm, rfl⟩

def PN.setSlot (n : PN) (k : Nat) (s : SL) : PN :=
  match k with
  | 0 => { n with s0 := s }
  | 1 => { n with s1 := s }
  | 2 => { n with s2 := s }
  | _ => { n with s3 := s }
def slCells (s : SL) : List Value := [I s.st, I s.wh, I s.by']

theorem setSlot_slot (n : PN) (k : Nat) (hk : k < 4) (s : SL) : (n.setSlot k s).slot k = s := by
  have : k = 0 ∨ k = 1 ∨ k = 2 ∨ k = 3 := by omega
  rcases this with rfl | rfl | rfl | rfl <;> rfl
theorem setSlot_other (n : PN) (k : Nat) (hk : k < 4) (j : Nat) (hj : j < 4) (hne : j ≠ k) (s : SL) : (n.setSlot k s).slot j = n.slot j := by
  have : k = 0 ∨ k = 1 ∨ k = 2 ∨ k = 3 := by omega
  have h2 : j = 0 ∨ j = 1 ∨ j = 2 ∨ j = 3 := by omega
  rcases this with rfl | rfl | rfl | rfl <;> rcases h2 with rfl | rfl | rfl | rfl <;> first | rfl | exact absurd rfl hne
theorem setSlot_twice (n : PN) (k : Nat) (s s' : SL) : (n.setSlot k s).setSlot k s' = n.setSlot k s' := by
  rcases k with _ | _ | _ | k <;> rfl

section
variable {w : World} {B : Nat} {L : PLay} {v i g : Nat} {W : World} {n : PN} {q : PP}

theorem PF.scell (h : PF w B L v i g W n q) {k : Nat} (hk : k < 4) (j : Nat) (hj : j < 3) : W.cell? ⟨L.tb, 8 + v * 21 + 6 + k * 3 + j, none⟩ = (slCells (n.slot k))[j]? := by
  have := h.ncell (6 + k * 3 + j) (by omega)
  rw [show 8 + v * 21 + (6 + k * 3 + j) = 8 + v * 21 + 6 + k * 3 + j from by omega] at this
  rw [this]
  have h1 : k = 0 ∨ k = 1 ∨ k = 2 ∨ k = 3 := by omega
  have h2 : j = 0 ∨ j = 1 ∨ j = 2 := by omega
  rcases h1 with rfl | rfl | rfl | rfl <;> rcases h2 with rfl | rfl | rfl <;> rfl

theorem PF.setS (h : PF w B L v i g W n q) {k : Nat} (hk : k < 4) (j : Nat) (hj : j < 3) (x : Value) (s' : SL) (he : slCells s' = (slCells (n.slot k)).set j x) : PF w B L v i g (W.setCell ⟨L.tb, 8 + v * 21 + 6 + k * 3 + j, none⟩ x) (n.setSlot k s') q := by
  have h1 : k = 0 ∨ k = 1 ∨ k = 2 ∨ k = 3 := by omega
  have := h.setN (6 + k * 3 + j) (by omega) x (n.setSlot k s') (by
    have h2 : j = 0 ∨ j = 1 ∨ j = 2 := by omega
    have e0 : I s'.st = ((slCells (n.slot k)).set j x).getD 0 (I 0) := by rw [← he]; rfl
    have e1 : I s'.wh = ((slCells (n.slot k)).set j x).getD 1 (I 0) := by rw [← he]; rfl
    have e2 : I s'.by' = ((slCells (n.slot k)).set j x).getD 2 (I 0) := by rw [← he]; rfl
    rcases h1 with rfl | rfl | rfl | rfl <;> rcases h2 with rfl | rfl | rfl <;> (simp only [pnCells, PN.setSlot]; rw [e0, e1, e2]; rfl))
    (by rcases h1 with rfl | rfl | rfl | rfl <;> rfl) (by rcases h1 with rfl | rfl | rfl | rfl <;> rfl)
  rw [show 8 + v * 21 + (6 + k * 3 + j) = 8 + v * 21 + 6 + k * 3 + j from by omega] at this
  exact this

/-- A slot is written whole. -/
theorem PF.setS3 (h : PF w B L v i g W n q) {k : Nat} (hk : k < 4) (s' : SL) : PF w B L v i g (((W.setCell ⟨L.tb, 8 + v * 21 + 6 + k * 3, none⟩ (I s'.st)).setCell ⟨L.tb, 8 + v * 21 + 6 + k * 3 + 1, none⟩ (I s'.wh)).setCell ⟨L.tb, 8 + v * 21 + 6 + k * 3 + 2, none⟩ (I s'.by')) (n.setSlot k s') q := by
  have h1 := h.setS hk 0 (by omega) (I s'.st) ⟨s'.st, (n.slot k).wh, (n.slot k).by'⟩ rfl
  have h2 := h1.setS hk 1 (by omega) (I s'.wh) ⟨s'.st, s'.wh, (n.slot k).by'⟩ (by rw [setSlot_slot _ _ hk]; rfl)
  have h3 := h2.setS hk 2 (by omega) (I s'.by') s' (by rw [setSlot_slot _ _ hk]; rfl)
  rw [setSlot_twice, setSlot_twice] at h3
  exact h3

theorem PF.pv (h : PF w B L v i g W n q) : ∃ cap, W.cell? ⟨L.tb, 680, none⟩ = some (.slice (some ⟨g, 0, none⟩) L.procs.length cap) ∧ L.procs.length ≤ cap ∧ L.procs.length ≤ maxLen ∧ cap ≤ maxLen := by
  obtain ⟨cap, e, c1, c2⟩ := h.hg
  have := h.rep.pcell
  exact ⟨cap, by rw [this]; exact congrArg some e, c1, Nat.le_trans c1 c2, c2⟩

def slotPP (s : SL) (q : PP) : PP := if s.st = 0 then { q with phase := 5 } else if s.st = 1 then { q with mind := s.wh, phase := 8 } else { q with phase := 11 }

set_option maxHeartbeats 2000000 in
theorem lookAtSlot_c (h : PF w B L v i g W n q) {k : Nat} (hk : k < 4) :
    Calls Try.prog 124 #[.pointer (some ⟨g, i * 11, none⟩), .pointer (some ⟨L.tb, 8 + v * 21 + 6 + k * 3, none⟩)] W fun e w' => e = .returned (.tuple #[]) ∧ PF w B L v i g w' n (slotPP (n.slot k) q) := by
  have s0 := h.scell hk 0 (by omega)
  have s1 := h.scell hk 1 (by omega)
  have c3 := h.pcell 3 (by omega)
  have c8 := h.pcell 8 (by omega)
  have fz := h.fzQ
  have hne := h.ne
  simp only [ppCells, slCells, List.getElem?_cons_succ, List.getElem?_cons_zero, Nat.add_zero] at s0 s1 c3 c8
  by_cases h0 : (n.slot k).st = 0
  · have HE : Hid (PF w B L v i g (W.setCell ⟨g, i * 11 + 3, none⟩ (I 5)) n (slotPP (n.slot k) q)) := h.setQ 3 (by omega) (I 5) _ (by simp [slotPP, ppCells, h0])
    rw [h0] at s0
    clear h h0
    go_enter Try.func124, Try.ntmps124
    go_wp2
    go_end0
    exact ⟨rfl, HE.out⟩
  · have b0 : ((n.slot k).st == 0) = false := by simp [h0]
    by_cases h1 : (n.slot k).st = 1
    · have HE : Hid (PF w B L v i g ((W.setCell ⟨g, i * 11 + 8, none⟩ (I (n.slot k).wh)).setCell ⟨g, i * 11 + 3, none⟩ (I 8)) n (slotPP (n.slot k) q)) := (h.setQ 8 (by omega) (I (n.slot k).wh) { q with mind := (n.slot k).wh } rfl).setQ 3 (by omega) (I 8) _ (by simp [slotPP, ppCells, h1])
      rw [h1] at s0
      clear h h0 h1 b0
      go_enter Try.func124, Try.ntmps124
      go_wp2
      go_end0
      exact ⟨rfl, HE.out⟩
    · have b1 : ((n.slot k).st == 1) = false := by simp [h1]
      have HE : Hid (PF w B L v i g (W.setCell ⟨g, i * 11 + 3, none⟩ (I 11)) n (slotPP (n.slot k) q)) := h.setQ 3 (by omega) (I 11) _ (by simp [slotPP, ppCells, h0, h1])
      clear h h0 h1
      go_enter Try.func124, Try.ntmps124
      go_wp2
      go_end0
      exact ⟨rfl, HE.out⟩

def waitPN (n : PN) (k : Nat) (q : PP) : PN := if (n.slot k).st = 2 then n else if 0 < q.pat then n else n.setSlot k zeroSL
def waitPP (s : SL) (q : PP) : PP := if s.st = 2 then { q with phase := 7 } else if 0 < q.pat then { q with pat := q.pat - 1 } else { q with phase := 10 }

set_option maxHeartbeats 2000000 in
theorem wait_c (h : PF w B L v i g W n q) {k : Nat} (hk : k < 4) (hp : q.pat ≤ 1000000) :
    Calls Try.prog 126 #[.pointer (some ⟨g, i * 11, none⟩), .pointer (some ⟨L.tb, 8 + v * 21 + 6 + k * 3, none⟩)] W fun e w' => e = .returned (.tuple #[]) ∧ PF w B L v i g w' (waitPN n k q) (waitPP (n.slot k) q) := by
  have s0 := h.scell hk 0 (by omega)
  have s1 := h.scell hk 1 (by omega)
  have s2 := h.scell hk 2 (by omega)
  have c3 := h.pcell 3 (by omega)
  have c9 := h.pcell 9 (by omega)
  have fz := h.fzQ
  have fn := h.fzN
  have hne := h.ne
  simp only [ppCells, slCells, List.getElem?_cons_succ, List.getElem?_cons_zero, Nat.add_zero] at s0 s1 s2 c3 c9
  by_cases h2 : (n.slot k).st = 2
  · have HE : Hid (PF w B L v i g (W.setCell ⟨g, i * 11 + 3, none⟩ (I 7)) (waitPN n k q) (waitPP (n.slot k) q)) := by
      unfold waitPN
      rw [if_pos h2]
      exact h.setQ 3 (by omega) (I 7) _ (by simp [waitPP, ppCells, h2])
    rw [h2] at s0
    clear h h2
    go_enter Try.func126, Try.ntmps126
    go_wp2
    go_end0
    exact ⟨rfl, HE.out⟩
  · have b0 : ((n.slot k).st == 2) = false := by simp [h2]
    by_cases hpos : 0 < q.pat
    · have HE : Hid (PF w B L v i g (W.setCell ⟨g, i * 11 + 9, none⟩ (I (q.pat - 1))) (waitPN n k q) (waitPP (n.slot k) q)) := by
        unfold waitPN
        rw [if_neg h2, if_pos hpos]
        exact h.setQ 9 (by omega) (I (q.pat - 1)) _ (by simp [waitPP, ppCells, h2, hpos])
      clear h h2
      go_enter Try.func126, Try.ntmps126
      go_wp2
      go_end0
      exact ⟨rfl, HE.out⟩
    · have hd : decide (0 < q.pat) = false := by simp; omega
      have HE : Hid (PF w B L v i g ((((W.setCell ⟨L.tb, 8 + v * 21 + 6 + k * 3, none⟩ (I 0)).setCell ⟨L.tb, 8 + v * 21 + 6 + k * 3 + 1, none⟩ (I 0)).setCell ⟨L.tb, 8 + v * 21 + 6 + k * 3 + 2, none⟩ (I 0)).setCell ⟨g, i * 11 + 3, none⟩ (I 10)) (waitPN n k q) (waitPP (n.slot k) q)) := by
        unfold waitPN
        rw [if_neg h2, if_neg hpos]
        exact (h.setS3 hk zeroSL).setQ 3 (by omega) (I 10) _ (by simp [waitPP, ppCells, h2, hpos])
      clear h h2
      go_enter Try.func126, Try.ntmps126
      go_wp2
      go_end0
      exact ⟨rfl, HE.out⟩

theorem wider_c (h : PF w B L v i g W n q) (m : Int) (hw0 : 0 ≤ q.width) (hw9 : q.width ≤ 1000) :
    Calls Try.prog 129 #[.pointer (some ⟨g, i * 11, none⟩), I m] W fun e w' => e = .returned (I (if m < 2 * q.width then m else 2 * q.width)) ∧ w' = W := by
  have c6 := h.pcell 6 (by omega)
  simp only [ppCells, List.getElem?_cons_succ, List.getElem?_cons_zero] at c6
  clear h
  by_cases hlt : m < 2 * q.width
  · rw [if_pos hlt]
    go_enter Try.func129, Try.ntmps129
    go_wp2
    go_ret
    exact ⟨rfl, rfl⟩
  · rw [if_neg hlt]
    have hd : decide (m < 2 * q.width) = false := by simp; omega
    go_enter Try.func129, Try.ntmps129
    go_wp2
    go_ret
    exact ⟨rfl, rfl⟩

theorem narrower_c (h : PF w B L v i g W n q) (hw0 : 0 ≤ q.width) (hw9 : q.width ≤ 1000) :
    Calls Try.prog 130 #[.pointer (some ⟨g, i * 11, none⟩)] W fun e w' => e = .returned (I (if q.width < 2 then 1 else q.width / 2)) ∧ w' = W := by
  have c6 := h.pcell 6 (by omega)
  simp only [ppCells, List.getElem?_cons_succ, List.getElem?_cons_zero] at c6
  have hdiv : Int.tdiv q.width 2 = q.width / 2 := Int.tdiv_eq_ediv_of_nonneg hw0
  clear h
  by_cases hlt : q.width < 2
  · rw [if_pos hlt]
    go_enter Try.func130, Try.ntmps130
    go_wp2
    go_ret
    exact ⟨rfl, rfl⟩
  · rw [if_neg hlt]
    have hd : decide (q.width < 2) = false := by simp; omega
    go_enter Try.func130, Try.ntmps130
    go_wp2
    go_ret
    exact ⟨rfl, rfl⟩

def settlePP (q : PP) (o : Op3) (b : Int) : PP := if q.kind = o.kind then downPP q b else if q.kind = 2 then { q with val := o.val, phase := 19 } else { q with phase := 19 }

set_option maxHeartbeats 2000000 in
theorem settle_c (h : PF w B L v i g W n q) (o : Op3) (hn0 : 0 ≤ q.node) (hn : q.node ≤ 1000000) (b : Int) (hb0 : 0 ≤ b) (hb : b ≤ 1) :
    Calls Try.prog 127 #[.pointer (some ⟨g, i * 11, none⟩), opV o, I b] W fun e w' => e = .returned (.tuple #[]) ∧ PF w B L v i g w' n (settlePP q o b) := by
  have HD : Hid (∀ W', Below W.heap.size W W' → _) := fun W' (hW : Below W.heap.size W W') => descend_c (h.below hW) hn0 hn b hb0 hb
  have HF : Hid (∀ W', Below W.heap.size W W' → (W'.cell? ⟨g, i * 11, none⟩ = some (I q.kind) ∧ W'.cell? ⟨g, i * 11 + 3, none⟩ = some (I q.phase) ∧ W'.cell? ⟨g, i * 11 + 5, none⟩ = some (I q.val)) ∧ ∀ j, W'.frozen? ⟨g, j, none⟩ = false) := fun W' hW => ⟨⟨(h.below hW).pcell 0 (by omega), (h.below hW).pcell 3 (by omega), (h.below hW).pcell 5 (by omega)⟩, (h.below hW).fzQ⟩
  obtain ⟨kd, vl, nd⟩ := o
  unfold opV
  simp only
  have hb1 : Below W.heap.size W (W.alloc (.cells #[I kd, I vl, I nd] 33)).drew := ((Below.refl _ _).alloc (Nat.le_refl _) _).drew
  obtain ⟨⟨c0, c3, c5⟩, fz⟩ := HF.out W (Below.refl _ _)
  have lg := cell_lt c0
  by_cases hk : q.kind = kd
  · have b1 : (q.kind == kd) = true := by simp [hk]
    have HE : Hid (settlePP q ⟨kd, vl, nd⟩ b = downPP q b) := by show _ = _; simp [settlePP, hk]
    rw [HE.out]
    have hd := HD.out _ hb1
    replace hd : Hid _ := hd
    clear h hk HD HF HE
    go_enter Try.func127, Try.ntmps127
    go_wp2_with fail
    go_region
    go_wp2_with fail
    refine Calls.mono hd.out ?_
    rintro e w1 ⟨rfl, hf⟩
    go_wp2_with fail
    exact bodyPost_ret (v := .tuple #[]) (by simp [results, Try.results127, go_sem]) rfl ⟨rfl, hf⟩
  · have b1 : (q.kind == kd) = false := by simp [hk]
    by_cases h2 : q.kind = 2
    · have b2 : (q.kind == 2) = true := by simp [h2]
      have HE : Hid (PF w B L v i g (((W.setCell ⟨g, i * 11 + 5, none⟩ (I vl)).setCell ⟨g, i * 11 + 3, none⟩ (I 19)).alloc (.cells #[I kd, I vl, I nd] 33)).drew n (settlePP q ⟨kd, vl, nd⟩ b)) :=
        ((h.setQ 5 (by omega) (I vl) { q with val := vl } rfl).setQ 3 (by omega) (I 19) _ (by unfold settlePP; rw [if_neg hk, if_pos h2]; rfl)).below (((Below.refl _ _).alloc (Nat.le_refl _) _).drew)
      clear h hk h2 HD HF
      go_enter Try.func127, Try.ntmps127
      go_wp2_with fail
      go_region
      go_wp2
      go_end0
      exact ⟨rfl, HE.out⟩
    · have b2 : (q.kind == 2) = false := by simp [h2]
      have HE : Hid (PF w B L v i g ((W.setCell ⟨g, i * 11 + 3, none⟩ (I 19)).alloc (.cells #[I kd, I vl, I nd] 33)).drew n (settlePP q ⟨kd, vl, nd⟩ b)) :=
        (h.setQ 3 (by omega) (I 19) _ (by unfold settlePP; rw [if_neg hk, if_neg h2]; rfl)).below (((Below.refl _ _).alloc (Nat.le_refl _) _).drew)
      clear h hk h2 HD HF
      go_enter Try.func127, Try.ntmps127
      go_wp2_with fail
      go_region
      go_wp2
      go_end0
      exact ⟨rfl, HE.out⟩

end

end Go.Proofs.Ytjnmpejcegmkhaa
