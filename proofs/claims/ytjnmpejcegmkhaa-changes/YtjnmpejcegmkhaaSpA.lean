/- Contracts of the statements' own wanted and looks (package prismlaw). A tree of the program and one of the document's answer, as long as nobody steps: they tell the same. A step of a script, as long as nobody steps: the statements' own step answers true, and both trees go on alike. A step of a script that spawns: the statements' own step answers true, and both trees go on alike. No statement of the seat is proved here. -/
import Derived.Test.YtjnmpejcegmkhaaRefSpawn2
import Derived.Test.YtjnmpejcegmkhaaRefB
import Derived.Test.YtjnmpejcegmkhaaNew1P
import Derived.Test.YtjnmpejcegmkhaaProgB
import Derived.Deep.RegionWith
namespace Go.Proofs.Ytjnmpejcegmkhaa
open Go.RowKit

/-- What a step of a script spawns. -/
def wantOp (k a b : Int) : Op3 := if k = 1 then ⟨0, a, b⟩ else if k = 2 then ⟨1, a, b⟩ else if k = 3 then ⟨2, a, b⟩ else if k = 4 then ⟨3, b, a⟩ else if k = 5 then ⟨4, b, a⟩ else ⟨a, b, b⟩

set_option maxHeartbeats 4000000 in
theorem wanted_c (k a b : Int) (hk : k = 1 ∨ k = 2 ∨ k = 3 ∨ k = 4 ∨ k = 5 ∨ k = 6) (w : World) : Calls Try.prog 63 #[.agg #[I k, I a, I b]] w fun e w' => e = .returned (.tuple #[opV (wantOp k a b), .bool true]) ∧ Below w.heap.size w w' := by
  unfold opV
  rcases hk with rfl | rfl | rfl | rfl | rfl | rfl
  · have e1 : wantOp 1 a b = ⟨0, a, b⟩ := rfl
    rw [e1]
    clear e1
    go_enter Try.func63, Try.ntmps63
    go_wp2
    exact bodyPost_ret (v := .tuple #[.agg #[I 0, I a, I b], .bool true]) (by simp [results, Try.results63, go_sem]) rfl ⟨rfl, ((Below.refl _ _).alloc (Nat.le_refl _) _).alloc (by simp) _⟩
  · have e1 : wantOp 2 a b = ⟨1, a, b⟩ := rfl
    rw [e1]
    clear e1
    go_enter Try.func63, Try.ntmps63
    go_wp2
    exact bodyPost_ret (v := .tuple #[.agg #[I 1, I a, I b], .bool true]) (by simp [results, Try.results63, go_sem]) rfl ⟨rfl, ((Below.refl _ _).alloc (Nat.le_refl _) _).alloc (by simp) _⟩
  · have e1 : wantOp 3 a b = ⟨2, a, b⟩ := rfl
    rw [e1]
    clear e1
    go_enter Try.func63, Try.ntmps63
    go_wp2
    exact bodyPost_ret (v := .tuple #[.agg #[I 2, I a, I b], .bool true]) (by simp [results, Try.results63, go_sem]) rfl ⟨rfl, ((Below.refl _ _).alloc (Nat.le_refl _) _).alloc (by simp) _⟩
  · have e1 : wantOp 4 a b = ⟨3, b, a⟩ := rfl
    rw [e1]
    clear e1
    go_enter Try.func63, Try.ntmps63
    go_wp2
    exact bodyPost_ret (v := .tuple #[.agg #[I 3, I b, I a], .bool true]) (by simp [results, Try.results63, go_sem]) rfl ⟨rfl, ((Below.refl _ _).alloc (Nat.le_refl _) _).alloc (by simp) _⟩
  · have e1 : wantOp 5 a b = ⟨4, b, a⟩ := rfl
    rw [e1]
    clear e1
    go_enter Try.func63, Try.ntmps63
    go_wp2
    exact bodyPost_ret (v := .tuple #[.agg #[I 4, I b, I a], .bool true]) (by simp [results, Try.results63, go_sem]) rfl ⟨rfl, ((Below.refl _ _).alloc (Nat.le_refl _) _).alloc (by simp) _⟩
  · have e1 : wantOp 6 a b = ⟨a, b, b⟩ := rfl
    rw [e1]
    clear e1
    go_enter Try.func63, Try.ntmps63
    go_wp2
    exact bodyPost_ret (v := .tuple #[.agg #[I a, I b, I b], .bool true]) (by simp [results, Try.results63, go_sem]) rfl ⟨rfl, ((Below.refl _ _).alloc (Nat.le_refl _) _).alloc (by simp) _⟩

/-- Nothing came out that the caller kept: looks says so. -/
theorem looks_c {w : World} {lb : Nat} {pt rt : Value} {mk : Int} (h : w.heap[lb]? = some (.cells #[pt, rt, .slice none 0 0, .slice none 0 0, .slice none 0 0, I mk] 103 (0, 0))) :
    Calls Try.prog 34 #[.pointer (some ⟨lb, 0, none⟩)] w fun e w' => e = .returned (.bool true) ∧ w' = w := by
  obtain ⟨f1, _⟩ := nb_facts h
  have c2 := f1 2
  have c4 := f1 4
  simp at c2 c4
  clear h f1
  go_enter Try.func34, Try.ntmps34
  go_wp2_with fail
  refine wp_loop_rounds 1 ?_
  rw [rounds_succ]
  go_wp2_with fail
  refine wp_loop_rounds 1 ?_
  rw [rounds_succ]
  go_wp2_with fail
  go_ret
  exact ⟨rfl, rfl⟩

/-- A process that has taken no step. -/
def Fresh (p : Pr) : Prop := (p.phase = 0 ∨ p.phase = 15) ∧ p.node = 1 ∧ p.val = 0

structure SpRel (c : Conf) (L : Lay) (P : PLay) : Prop where
  may : mayC c = true
  cL : L.c = c
  cP : P.c = c
  len : L.past.length = 2 ^ (c.depth.toNat + 1)
  hist : ∀ u, 1 ≤ u → u < L.past.length → L.hist u = newHist c.start u
  hist0 : L.hist 0 = []
  nodes : ∀ v, 1 ≤ v → v < 32 → P.nodes.getD v zeroPN = newPN (2 ^ c.start.toNat) v
  plen : P.procs.length = L.procs.length
  np : L.procs.length ≤ 256
  full : (L.procs.length : Int) ≤ c.procs
  fresh : ∀ x ∈ L.procs, Fresh x.2
  same : ∀ i, (hi : i < L.procs.length) → (hj : i < P.procs.length) → (P.procs[i]).phase = (L.procs[i]).2.phase ∧ (P.procs[i]).node = (L.procs[i]).2.node ∧ (P.procs[i]).val = (L.procs[i]).2.val

theorem fresh_live {l : List (Nat × Pr)} (h : ∀ x ∈ l, Fresh x.2) : liveL l = l.length := by
  induction l with
  | nil => rfl
  | cons x l ih =>
    have hx := h x (by simp)
    have : x.2.phase ≠ 20 := by rcases hx.1 with e | e <;> omega
    simp only [liveL, this, if_false, List.length_cons, ih (fun y hy => h y (by simp [hy]))]
    omega

theorem fresh_shut {l : List (Nat × Pr)} (h : ∀ x ∈ l, Fresh x.2) (v : Int) : shutL v l = false := by
  induction l with
  | nil => rfl
  | cons x l ih =>
    have hx := h x (by simp)
    simp only [shutL, ih (fun y hy => h y (by simp [hy])), Bool.or_false]
    rcases hx.1 with e | e <;> simp [shutP, e]

theorem climb_zero (f v : Nat) : climb f 0 v = 0 := by cases f <;> simp [climb]

theorem fresh_inside {l : List (Nat × Pr)} (h : ∀ x ∈ l, Fresh x.2) (v : Nat) (hv : 1 ≤ v) : insideL v l = 0 := by
  induction l with
  | nil => rfl
  | cons x l ih =>
    have hx := h x (by simp)
    have ha : atP x.2 = 0 := by
      unfold atP
      rw [if_pos (by rcases hx.1 with e | e <;> simp [e]), hx.2.1]; rfl
    have : holdsP v x.2 = false := by
      simp only [holdsP, ha, climb_zero]
      have : ¬ (0 = v) := by omega
      simp [this]
    simp only [insideL, this, ih (fun y hy => h y (by simp [hy]))]
    rfl

theorem fresh_waits {l : List (Nat × Pr)} (h : ∀ x ∈ l, Fresh x.2) (v k : Int) (i : Nat) : waitsL v k l i = -1 := by
  induction l generalizing i with
  | nil => rfl
  | cons x l ih =>
    have hx := h x (by simp)
    have : waitP v k x.2 = false := by rcases hx.1 with e | e <;> simp [waitP, e]
    simp only [waitsL, this, Bool.false_eq_true, if_false]
    exact ih (fun y hy => h y (by simp [hy])) (i + 1)

theorem fresh_waitTo {l : List (Nat × Pr)} (h : ∀ x ∈ l, Fresh x.2) (v : Int) (k : Nat) : waitTo v l k = List.replicate k (-1) := by
  unfold waitTo
  rw [List.eq_replicate_iff]
  refine ⟨by simp, fun b hb => ?_⟩
  simp only [List.mem_map] at hb
  obtain ⟨j, _, rfl⟩ := hb
  exact fresh_waits h _ _ _

theorem pnodes_sp {c : Conf} {L : Lay} {P : PLay} (h : SpRel c L P) : pnodes P = (List.range 32).filterMap (newND c) := by
  have h' : PNew c { P with procs := [] } := ⟨h.cP, rfl, h.nodes⟩
  have := pnodes_new h'
  exact this

theorem rnodes_sp {c : Conf} {L : Lay} {P : PLay} (h : SpRel c L P) : rnodes L = (List.range 32).filterMap (newND c) := by
  have h' : NewLay c { L with procs := [] } := ⟨h.cL, rfl, h.len, h.hist, h.hist0⟩
  rw [← rnodes_new h' h.may]
  show rnodesTo L L.past.length = rnodesTo { L with procs := [] } L.past.length
  unfold rnodesTo
  refine filterMap_range_congr _ _ _ fun v hv => ?_
  by_cases h0 : v = 0
  · simp [h0]
  · have e : rnode L v = rnode { L with procs := [] } v := by
      unfold rnode
      rw [fresh_shut h.fresh, fresh_inside h.fresh v (by omega), fresh_waitTo h.fresh]
      rw [show ({ L with procs := [] } : Lay).hist v = L.hist v from rfl]
      simp only [shutL, insideL, waitTo_new]
    rw [e]
    rfl

theorem procV_sp {c : Conf} {L : Lay} {P : PLay} (h : SpRel c L P) (n : Int) : procV L n = pprocV P n := by
  unfold procV pprocV
  rw [h.plen]
  by_cases hn : 0 ≤ n ∧ n < L.procs.length
  · rw [if_pos hn, if_pos hn]
    have hi : n.toNat < L.procs.length := by omega
    have hj : n.toNat < P.procs.length := by rw [h.plen]; exact hi
    obtain ⟨a1, a2, a3⟩ := h.same n.toNat hi hj
    simp only [List.getD_eq_getElem?_getD, List.getElem?_eq_getElem hi, List.getElem?_eq_getElem hj, Option.getD_some]
    rw [a1, a2, a3]
  · rw [if_neg hn, if_neg hn]

theorem sp_ok {c : Conf} {L : Lay} {P : PLay} (h : SpRel c L P) : L.Ok := by
  have h' : NewLay c { L with procs := [] } := ⟨h.cL, rfl, h.len, h.hist, h.hist0⟩
  have o := newLay_ok h' h.may
  refine ⟨h.np, o.past, o.width0, o.width4, fun i hi => ?_, o.n0, o.n9, o.t9⟩
  have hf := h.fresh _ (List.getElem_mem hi)
  exact ⟨by rw [hf.2.1]; rfl, by rw [hf.2.1]; decide⟩

theorem sp_agree {c : Conf} {w : World} {B : Nat} {L : Lay} {P : PLay} (h : SpRel c L P) (hr : PRep w B P) : Agree w (.pointer (some ⟨P.tb, 0, none⟩)) L where
  nodes := fun W hW => by
    have hc : 1 ≤ c.width ∧ c.width ≤ 4 := by have := h.may; simp [mayC] at this; omega
    rw [rnodes_sp h, ← pnodes_sp h]
    refine pnodes_c (hr.below hW) (by rw [h.cP]; omega) (by rw [h.cP]; omega) ?_
    intro v h1 hv
    have := h.nodes v h1 (by rw [hr.len] at hv; exact hv)
    rw [List.getD_eq_getElem?_getD, List.getElem?_eq_getElem hv] at this
    simp only [Option.getD_some] at this
    rw [this]
    unfold newPN
    split
    · simp [innerPN]
    · split <;> simp [leafPN, zeroPN]
  proc := fun W hW p => by
    rw [procV_sp h]
    exact pproc_c (hr.below hW) p

theorem newPr_fresh (o : Op3) : Fresh (newPr o) := by
  unfold Fresh newPr
  simp only
  by_cases h : isChange o ∧ o.node = 1
  · simp [h]
  · simp [h]

theorem plive_sp {c : Conf} {L : Lay} {P : PLay} (h : SpRel c L P) : pliveL P.procs = L.procs.length := by
  have key : ∀ l : List PP, (∀ x ∈ l, x.phase ≠ 20) → pliveL l = l.length := by
    intro l hl
    induction l with
    | nil => rfl
    | cons x l ih =>
      have hx := hl x (by simp)
      simp only [pliveL, hx, if_false, List.length_cons, ih (fun y hy => hl y (by simp [hy]))]
      omega
  rw [key P.procs (fun x hx => ?_), h.plen]
  obtain ⟨i, hi, rfl⟩ := List.getElem_of_mem hx
  have hj : i < L.procs.length := by rw [← h.plen]; exact hi
  rw [(h.same i hj hi).1]
  rcases (h.fresh _ (List.getElem_mem hj)).1 with e | e <;> omega

theorem SpRel.push {c : Conf} {L : Lay} {P : PLay} (h : SpRel c L P) (o : Op3) (nb : Nat) (x y : Value) (hn : L.procs.length < 256) (hf : (L.procs.length : Int) < c.procs) :
    SpRel c { L with pv := x, procs := L.procs ++ [(nb, newPr o)] } { P with pv := y, procs := P.procs ++ [newPP o] } := by
  refine ⟨h.may, h.cL, h.cP, h.len, h.hist, h.hist0, h.nodes, by simp [h.plen], by simp; omega, by simp; omega, ?_, ?_⟩
  · intro z hz
    rcases List.mem_append.1 hz with hz | hz
    · exact h.fresh z hz
    · simp at hz; subst hz; exact newPr_fresh o
  · intro i hi' hj'
    have hi2 : i < L.procs.length + 1 := by simpa using hi'
    by_cases e : i < L.procs.length
    · have e' : i < P.procs.length := by rw [h.plen]; exact e
      simp only [List.getElem_append_left e, List.getElem_append_left e']
      exact h.same i e e'
    · have e1 : i = L.procs.length := by omega
      subst e1
      have e2 := h.plen
      simp only [List.getElem_append_right (Nat.le_refl _), List.getElem_append_right (Nat.le_of_eq e2), e2, Nat.sub_self, List.getElem_cons_zero]
      exact ⟨rfl, rfl, rfl⟩

theorem RefRep.chg {w w' : World} {B : Nat} {L : Lay} {T : List TypeId} (h : RefRep w B L) (hc : ChgT B T w w') (h1 : 110 ∉ T) (h2 : 129 ∉ T) (h3 : 128 ∉ T) (h4 : 136 ∉ T) (h5 : 125 ∉ T) (h6 : 3 ∉ T) : RefRep w' B L :=
  ⟨hc.at h.tree h1, h.treeB, hc.row h.prow h2, fun i hi => ⟨hc.at (h.pblk i hi).1 h3, (h.pblk i hi).2⟩, h.pnd, hc.row h.hrow h4, fun i hi => hc.row (h.hist i hi) h5, fun i hi y hy => hc.row (h.items i hi y hy) h6, h.hnd⟩
theorem PRep.chg {w w' : World} {B : Nat} {L : PLay} {T : List TypeId} (h : PRep w B L) (hc : ChgT B T w w') (h1 : 78 ∉ T) (h2 : 119 ∉ T) (h3 : 135 ∉ T) : PRep w' B L :=
  ⟨hc.at h.tree h1, h.treeB, h.len, hc.row h.prow h2, fun v hv => hc.row (h.items v hv) h3, h.ind⟩

def lawCells (P : PLay) (L : Lay) : Array Value := #[.pointer (some ⟨P.tb, 0, none⟩), .pointer (some ⟨L.tb, 0, none⟩), .slice none 0 0, .slice none 0 0, .slice none 0 0, I (-1000)]

structure SpSt (w : World) (B : Nat) (c : Conf) (lb : Nat) (L : Lay) (P : PLay) : Prop where
  law : w.heap[lb]? = some (.cells (lawCells P L) 103 (0, 0))
  ref : RefRep w B L
  prog : PRep w B P
  rel : SpRel c L P
  hB : B ≤ w.heap.size

theorem SpSt.below {w w' : World} {B : Nat} {c : Conf} {lb : Nat} {L : Lay} {P : PLay} (h : SpSt w B c lb L P) (hb : Below w.heap.size w w') : SpSt w' B c lb L P :=
  ⟨by rw [hb.block _ (Array.getElem?_eq_some_iff.1 h.law).1]; exact h.law, h.ref.below hb, h.prog.below hb, h.rel, Nat.le_trans h.hB hb.size⟩
theorem SpSt.lawRep {w : World} {B : Nat} {c : Conf} {lb : Nat} {L : Lay} {P : PLay} (h : SpSt w B c lb L P) : LawRep w lb (.pointer (some ⟨P.tb, 0, none⟩)) L.tb := ⟨⟨_, _, _, _, h.law⟩, ⟨_, _, rfl⟩⟩

/-- Spawn of one and the same operation, in both trees: refused alike, or both have one process more. -/
theorem spawn_both {w : World} {B : Nat} {c : Conf} {lb : Nat} {L : Lay} {P : PLay} (h : SpSt w B c lb L P) (o : Op3) :
    (∃ e : Int, (∀ W, PRep W B P → Calls Try.prog 40 #[.pointer (some ⟨P.tb, 0, none⟩), opV o] W fun x w' => x = .returned (.tuple #[I 0, I e]) ∧ Below W.heap.size W w') ∧
      (∀ W, RefRep W B L → Calls Try.prog 64 #[.pointer (some ⟨L.tb, 0, none⟩), opV o] W fun x w' => x = .returned (.tuple #[I 0, I e]) ∧ Below W.heap.size W w')) ∨
    ((L.procs.length < 256 ∧ (L.procs.length : Int) < c.procs) ∧ (∀ W, PRep W B P → B ≤ W.heap.size → Calls Try.prog 40 #[.pointer (some ⟨P.tb, 0, none⟩), opV o] W fun x w' => x = .returned (.tuple #[I L.procs.length, I 0]) ∧ (∃ y, PRep w' B { P with pv := y, procs := P.procs ++ [newPP o] }) ∧ ChgT B [78, 119] W w') ∧
      (∀ W, RefRep W B L → B ≤ W.heap.size → Calls Try.prog 64 #[.pointer (some ⟨L.tb, 0, none⟩), opV o] W fun x w' => x = .returned (.tuple #[I L.procs.length, I 0]) ∧ (∃ nb y, RefRep w' B { L with pv := y, procs := L.procs ++ [(nb, newPr o)] }) ∧ ChgT B [110, 129] W w')) := by
  have hm := h.rel.may
  have hd : 0 ≤ c.depth ∧ c.depth ≤ 4 := by simp [mayC] at hm; omega
  have dL : 0 ≤ L.c.depth ∧ L.c.depth ≤ 4 := by rw [h.rel.cL]; exact hd
  have dP : 0 ≤ P.c.depth ∧ P.c.depth ≤ 4 := by rw [h.rel.cP]; exact hd
  have lvL : liveL L.procs = L.procs.length := fresh_live h.rel.fresh
  have lvP : pliveL P.procs = L.procs.length := plive_sp h.rel
  by_cases hok : okOp c o
  · have okL : okOp L.c o := by rw [h.rel.cL]; exact hok
    have okP : okOp P.c o := by rw [h.rel.cP]; exact hok
    by_cases hn : L.procs.length = 256
    · exact Or.inl ⟨3, fun W hW => pspawn_err3 hW o okP dP.1 dP.2 (by rw [h.rel.plen]; exact hn), fun W hW => rspawn_err3 hW o okL hn dL.1 dL.2⟩
    · have hn' : L.procs.length < 256 := by have := h.rel.np; omega
      have hnP : P.procs.length < 256 := by rw [h.rel.plen]; exact hn'
      by_cases hf : (L.procs.length : Int) = c.procs
      · exact Or.inl ⟨4, fun W hW => pspawn_err4 hW o okP dP.1 dP.2 hnP (by rw [lvP, h.rel.cP]; omega), fun W hW => rspawn_err4 hW o okL hn' (by rw [lvL, h.rel.cL]; exact hf) dL.1 dL.2⟩
      · have hf' : (L.procs.length : Int) < c.procs := by have := h.rel.full; omega
        refine Or.inr ⟨⟨hn', hf'⟩, fun W hW hB => ?_, fun W hW hB => rspawn_yes hW hB o okL dL.1 dL.2 hn' (by rw [lvL, h.rel.cL]; omega)⟩
        have := pspawn_yes hW hB o okP dP.1 dP.2 hnP (by rw [lvP, h.rel.cP]; omega)
        rw [h.rel.plen] at this
        exact this
  · exact Or.inl ⟨2, fun W hW => pspawn_err2 hW o (by rw [h.rel.cP]; exact hok) dP.1 dP.2, fun W hW => rspawn_err2 hW o (by rw [h.rel.cL]; exact hok) dL.1 dL.2⟩

set_option maxHeartbeats 4000000 in
theorem step_seven {w : World} {B : Nat} {c : Conf} {lb : Nat} {L : Lay} {P : PLay} (h : SpSt w B c lb L P) (a b : Int) :
    Calls Try.prog 33 #[.pointer (some ⟨lb, 0, none⟩), .agg #[I 7, I a, I b]] w fun e w' => e = .returned (.bool true) ∧ Below w.heap.size w w' := by
  have hc := fun W (hb : Below w.heap.size w W) => sameProc_agree (h.below hb).lawRep (h.below hb).ref (sp_agree h.rel (h.below hb).prog) a
  replace hc : Hid _ := hc
  clear h
  go_enter Try.func33, Try.ntmps33
  go_wp2_with fail
  refine (hc.out _ ((Below.refl _ _).alloc (Nat.le_refl _) _)).mono ?_
  rintro e w1 ⟨rfl, hb1⟩
  go_wp2
  go_ret
  exact ⟨rfl, ((Below.refl _ _).alloc (Nat.le_refl _) _).trans (hb1.mono (by simp))⟩

set_option maxHeartbeats 4000000 in
theorem step_eleven {w : World} {B : Nat} {c : Conf} {lb : Nat} {L : Lay} {P : PLay} (h : SpSt w B c lb L P) (a b : Int) :
    Calls Try.prog 33 #[.pointer (some ⟨lb, 0, none⟩), .agg #[I 11, I a, I b]] w fun e w' => e = .returned (.bool true) ∧ Below w.heap.size w w' := by
  have hlen : 1 ≤ L.past.length := by rw [h.rel.len]; exact Nat.two_pow_pos _
  have hc := fun W (hb : Below w.heap.size w W) => agrees_c (h.below hb).lawRep (h.below hb).ref (sp_ok h.rel) hlen (sp_agree h.rel (h.below hb).prog)
  replace hc : Hid _ := hc
  clear h
  go_enter Try.func33, Try.ntmps33
  go_wp2_with fail
  refine (hc.out _ ((Below.refl _ _).alloc (Nat.le_refl _) _)).mono ?_
  rintro e w1 ⟨rfl, hb1⟩
  go_wp2
  go_ret
  exact ⟨rfl, ((Below.refl _ _).alloc (Nat.le_refl _) _).trans (hb1.mono (by simp))⟩

set_option maxHeartbeats 8000000 in
theorem step_spawn {w : World} {B : Nat} {c : Conf} {lb : Nat} {L : Lay} {P : PLay} (h : SpSt w B c lb L P) (k a b : Int) (hk : k = 1 ∨ k = 2 ∨ k = 3 ∨ k = 4 ∨ k = 5 ∨ k = 6) :
    Calls Try.prog 33 #[.pointer (some ⟨lb, 0, none⟩), .agg #[I k, I a, I b]] w fun e w' => e = .returned (.bool true) ∧ (∃ L' P', SpSt w' B c lb L' P') ∧ Below B w w' := by
  have hw := fun W => wanted_c k a b hk W
  have b7 : (k == 7) = false := by simp; omega
  have b8 : (k == 8) = false := by simp; omega
  have b9 : (k == 9) = false := by simp; omega
  have b10 : (k == 10) = false := by simp; omega
  have b11 : (k == 11) = false := by simp; omega
  have hs := spawn_both h (wantOp k a b)
  have f0 : w.cell? ⟨lb, 0, none⟩ = some (.pointer (some ⟨P.tb, 0, none⟩)) := h.lawRep.c0
  have f1 : w.cell? ⟨lb, 1, none⟩ = some (.pointer (some ⟨L.tb, 0, none⟩)) := h.lawRep.c1
  have l0 := cell_lt f0
  have hB := h.hB
  unfold opV at hw hs
  replace hw : Hid _ := hw
  generalize hop : wantOp k a b = o at *
  clear hop hk
  obtain ⟨ok, ov, on⟩ := o
  simp only at hw hs
  rcases hs with ⟨e0, hp, hr⟩ | ⟨hlim, hp, hr⟩
  · replace hp : Hid _ := hp
    replace hr : Hid _ := hr
    go_enter Try.func33, Try.ntmps33
    go_wp2_with fail
    refine (hw.out _).mono ?_
    rintro e w1 ⟨rfl, hb1⟩
    have hb2 : Below w.heap.size w w1 := ((Below.refl _ _).alloc (Nat.le_refl _) _).trans (hb1.mono (by simp))
    have g0 := (hb2.cell (p := ⟨lb, 0, none⟩) l0).trans f0
    have l1 : lb < w1.heap.size := Nat.lt_of_lt_of_le l0 hb2.size
    clear hb1 hw
    go_wp2_with fail
    go_region_with (go_at_call 40; refine (hp.out _ (h.below ((hb2.alloc hb2.size _).drew)).prog).mono ?_; rintro e w2 ⟨rfl, hb3⟩)
    all_goals
      have hb4 : Below w.heap.size w w2 := ((hb2.alloc hb2.size _).drew).trans (hb3.mono (by show w.heap.size ≤ (w1.alloc _).heap.size; simp; exact Nat.le_succ_of_le hb2.size))
      have nx : w2.heap[w1.heap.size]? = some (.cells #[I ok, I ov, I on] 33 (0, 0)) := (hb3.block _ (by show w1.heap.size < (w1.alloc _).heap.size; simp)).trans (nb_alloc _ _ _)
      have g1 := (hb4.cell (p := ⟨lb, 1, none⟩) l0).trans f1
      obtain ⟨x1, _⟩ := nb_facts nx
      clear hb3
      go_wp2_with fail
      go_region_with (go_at_call 64; refine (hr.out _ (h.below hb4.drew).ref).mono ?_; rintro e w3 ⟨rfl, hb5⟩)
      all_goals
        have hb6 : Below w.heap.size w w3 := hb4.drew.trans (hb5.mono hb4.size)
        clear hb5
        go_wp2
        go_ret
        exact ⟨rfl, ⟨L, P, h.below hb6⟩, hb6.mono hB⟩
  · replace hp : Hid _ := hp
    replace hr : Hid _ := hr
    go_enter Try.func33, Try.ntmps33
    go_wp2_with fail
    refine (hw.out _).mono ?_
    rintro e w1 ⟨rfl, hb1⟩
    have hb2 : Below w.heap.size w w1 := ((Below.refl _ _).alloc (Nat.le_refl _) _).trans (hb1.mono (by simp))
    have g0 := (hb2.cell (p := ⟨lb, 0, none⟩) l0).trans f0
    have l1 : lb < w1.heap.size := Nat.lt_of_lt_of_le l0 hb2.size
    clear hb1 hw
    go_wp2_with fail
    go_region_with (go_at_call 40; refine (hp.out _ (h.below ((hb2.alloc hb2.size _).drew)).prog (h.below ((hb2.alloc hb2.size _).drew)).hB).mono ?_; rintro e w2 ⟨rfl, ⟨y, hpr⟩, hc2⟩)
    all_goals
      have hbx := (hb2.alloc hb2.size (.cells #[I ok, I ov, I on] 33)).drew
      have h2 := h.below hbx
      have nx : w2.heap[w1.heap.size]? = some (.cells #[I ok, I ov, I on] 33 (0, 0)) := hc2.at (nb_alloc _ _ _) (by decide)
      have hlw := hc2.at h2.law (by decide)
      have hrf := h2.ref.chg hc2 (by decide) (by decide) (by decide) (by decide) (by decide) (by decide)
      have hB2 : B ≤ w2.heap.size := Nat.le_trans h2.hB hc2.size
      have g1 : w2.cell? ⟨lb, 1, none⟩ = some (.pointer (some ⟨L.tb, 0, none⟩)) := by rw [block_cell hlw]; rfl
      have hbB := (hbx.mono hB).trans (hc2.below h2.hB)
      obtain ⟨x1, _⟩ := nb_facts nx
      replace hlw : Hid _ := hlw
      clear hc2 h2
      go_wp2_with fail
      go_region_with (go_at_call 64; refine (hr.out _ (hrf.below (Below.refl _ _).drew) hB2).mono ?_; rintro e w3 ⟨rfl, ⟨nb, z, hrr⟩, hc3⟩)
      all_goals
        have hc4 : ChgT B [110, 129] w2 w3 := ⟨hc3.os, hc3.tape, hc3.output, hc3.size, hc3.block⟩
        have hlw3 := hc4.at hlw.out (by decide)
        have hp3 := hpr.chg hc4 (by decide) (by decide) (by decide)
        have hbB3 := hbB.trans (hc4.below hB2)
        have hB3 : B ≤ w3.heap.size := Nat.le_trans hB2 hc4.size
        have hrel := h.rel.push ⟨ok, ov, on⟩ nb z y hlim.1 hlim.2
        replace hlw3 : Hid _ := hlw3
        clear hc3 hc4
        go_wp2
        go_ret
        exact ⟨rfl, ⟨{ L with pv := z, procs := L.procs ++ [(nb, newPr ⟨ok, ov, on⟩)] }, { P with pv := y, procs := P.procs ++ [newPP ⟨ok, ov, on⟩] }, ⟨hlw3.out, hrr, hp3, hrel, hB3⟩⟩, hbB3⟩

end Go.Proofs.Ytjnmpejcegmkhaa
