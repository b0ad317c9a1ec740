/- What a tree of package prismref is in memory (RefRep), said of plain data; small facts on it. Contracts of package prismref's functions that only read: each returns what a plain function of the tree's data tells. Contracts of package prismref's functions that only read, second part: many, width, from, toggle, puts, gets. Contracts of package prismref's functions that only read, third part: item, items. Contracts of package prismref's functions that only read, fourth part: those over the processes. Contracts of package prismref's functions that only read, fifth part: waits, Live, Proc, Changes. The contract of package prismref's Nodes. The contract of package prismref's May. Contracts of package prismref's happens, May and New. What happens at a node, said of the tree's data. The contract of package prismref's New. No statement of the seat is proved here. Contracts of the statements' own comparisons (package prismlaw): of two answers that are alike they say so. The contract of package prismref's Spawn. No statement of the seat is proved here. Contracts of package prismref's small functions that write a process: child, up, ends, settled; remainder. Contracts of package prismref's meeting, phase by phase: Wide, Slot, Claim, Wait. Contracts of package prismref's meeting, phase by phase: Slot, Taken, Grow, Shrink. Contracts of package prismref's meeting, phase by phase: Taken, Grow, Shrink. Contracts of package prismref's meeting: the phase Meet. Contracts of package prismref's meeting: the phase Meet, where the kept one is met. Contracts of package prismref's look, of an Inc, a Put or a Get. Contracts of package prismref's leaf: the phase Ticket. Contracts of package prismref's leaf: the phases Store and Fetch. Contracts of package prismref's Step: its errors, and by phase. No statement of the seat is proved here. -/
import Derived.Test.YtjnmpejcegmkhabDoorRows
import Derived.WalkKit
import Derived.WalkSpells
import Derived.WalkLawsBesides
import Derived.Deep.QuietTactic
import Derived.BigQuiet
import Derived.Deep.RegionLaw
import Derived.Deep.AppendLies
import Derived.Deep.RegionWith
namespace Go.Proofs.YtjnmpejcegmkhabDoor
open Go.RowKit
set_option linter.unusedVariables false

abbrev I (n : Int) : Value := .int .i64 n

structure Ev where
  what : Int
  n : Int
  v : Int
  items : List Int

structure Pr where
  kind : Int
  oval : Int
  onode : Int
  phase : Int
  node : Int
  val : Int
  wide : Int
  slot : Int
  pat : Int
  mind : Int
  met : Int
  ticket : Int
  steps : Int

structure Conf where
  kind : Int
  depth : Int
  start : Int
  slots : Int
  width : Int
  spin : Int
  drain : Int
  procs : Int

abbrev Hist := List (Ev × Value)

structure Lay where
  tb : Nat
  c : Conf
  pv : Value
  procs : List (Nat × Pr)
  hv : Value
  past : List (Value × Hist)

def treeCells (L : Lay) : Array Value := #[I L.c.kind, I L.c.depth, I L.c.start, I L.c.slots, I L.c.width, I L.c.spin, I L.c.drain, I L.c.procs, L.pv, L.hv]
def prCells (p : Pr) : Array Value := #[I p.kind, I p.oval, I p.onode, I p.phase, I p.node, I p.val, I p.wide, I p.slot, I p.pat, I p.mind, I p.met, I p.ticket, I p.steps]
def evCells (e : Ev × Value) : List Value := [I e.1.what, I e.1.n, I e.1.v, e.2]
def histCells : Hist → List Value
  | [] => []
  | e :: r => histCells r ++ evCells e

structure RefRep (w : World) (B : Nat) (L : Lay) : Prop where
  no : False
  tree : w.heap[L.tb]? = some (.cells (treeCells L) 1000000 (0, 0))
  treeB : B ≤ L.tb
  prow : w.ownsRow B 1000001 1 L.pv L.procs.length (L.procs.map fun p => .pointer (some ⟨p.1, 0, none⟩))
  pblk : ∀ i, (hi : i < L.procs.length) → w.heap[(L.procs[i]).1]? = some (.cells (prCells (L.procs[i]).2) 1000002 (0, 0)) ∧ B ≤ (L.procs[i]).1
  pnd : ∀ i j, (hi : i < L.procs.length) → (hj : j < L.procs.length) → (L.procs[i]).1 = (L.procs[j]).1 → i = j
  hrow : w.ownsRow B 1000003 1 L.hv L.past.length (L.past.map fun x => x.1)
  hist : ∀ i, (hi : i < L.past.length) → w.ownsRow B 1000004 4 (L.past[i]).1 (L.past[i]).2.length (histCells (L.past[i]).2)
  items : ∀ i, (hi : i < L.past.length) → ∀ y ∈ (L.past[i]).2, w.ownsRow B 3 1 y.2 y.1.items.length (y.1.items.map I)
  hnd : ∀ i j, (hi : i < L.past.length) → (hj : j < L.past.length) → ∀ g, (L.past[i]).1.ownBlock = some g → (L.past[j]).1.ownBlock = some g → i = j

theorem ownsRow_cells {w : World} {base : Nat} {e : TypeId} {size : Nat} {v : Value} {n : Nat} {xs : List Value} (h : w.ownsRow base e size v n xs) :
    ∃ ao cap, v = .slice ao n cap ∧ n ≤ cap ∧ n ≤ maxLen ∧ cap ≤ maxLen ∧ ∀ j u, xs[j]? = some u → ∃ g, ao = some ⟨g, 0, none⟩ ∧ base ≤ g ∧ w.cell? ⟨g, j, none⟩ = some u := by
  obtain ⟨h1, h2⟩ := h
  rcases h2 with ⟨rfl, rfl⟩ | ⟨g, cap, cur, rfl, hg, hh, hn, hc, hcs, ht⟩
  · refine ⟨none, 0, rfl, Nat.le_refl _, Nat.zero_le _, Nat.zero_le _, fun j u hj => ?_⟩
    simp at h1; subst h1; simp at hj
  · refine ⟨some ⟨g, 0, none⟩, cap, rfl, hn, Nat.le_trans hn hc, hc, fun j u hj => ⟨g, rfl, hg, ?_⟩⟩
    subst ht
    have hj' : j < n * size := by
      have := List.getElem?_eq_some_iff.1 hj
      obtain ⟨hlt, _⟩ := this
      simp at hlt; omega
    rw [List.getElem?_take_of_lt hj'] at hj
    simp [World.cell?, hh]
    simpa using hj

theorem block_cell {w : World} {b : Nat} {cs : Array Value} {e : TypeId} {f : Nat × Nat} (h : w.heap[b]? = some (.cells cs e f)) (j : Nat) : w.cell? ⟨b, j, none⟩ = cs[j]? := by
  simp [World.cell?, h]

theorem cell_lt {w : World} {b o : Nat} {v : Value} (h : w.cell? ⟨b, o, none⟩ = some v) : b < w.heap.size := by
  unfold World.cell? at h
  split at h
  · next hh => exact (Array.getElem?_eq_some_iff.1 hh).1
  · simp at h

def Lay.hist (L : Lay) (v : Nat) : Hist := (L.past.getD v (.slice none 0 0, [])).2

/-- What only grows keeps a tree. -/
theorem ownsRow_below {w w' : World} {C : Nat} {base : Nat} {e : TypeId} {size : Nat} {v : Value} {n : Nat} {xs : List Value} (h : w.ownsRow base e size v n xs) (hb : Below C w w') (hC : w.heap.size ≤ C) : w'.ownsRow base e size v n xs := by
  obtain ⟨h1, h2⟩ := h
  refine ⟨h1, ?_⟩
  rcases h2 with h2 | ⟨g, cap, cur, hv, hg, hh, r⟩
  · exact Or.inl h2
  · have : g < w.heap.size := (Array.getElem?_eq_some_iff.1 hh).1
    exact Or.inr ⟨g, cap, cur, hv, hg, by rw [hb.block g (by omega)]; exact hh, r⟩

theorem log2_le5 (v : Nat) (hv : v < 64) : Nat.log2 v ≤ 5 := by
  by_cases h0 : v = 0
  · subst h0; decide
  · have := (Nat.log2_lt (n := v) (k := 6) h0).2 (by omega)
    omega

/-- Rank of node v, by its halves. -/
def rankTo : Nat → Nat → Nat
  | 0, _ => 0
  | f + 1, v => if v ≤ 1 then 0 else rankTo f (v / 2) + v % 2 * 2 ^ Nat.log2 (v / 2)
def rank (v : Nat) : Nat := rankTo 6 v

theorem rankTo_le (f v : Nat) : rankTo f v ≤ v := by
  induction f generalizing v with
  | zero => simp [rankTo]
  | succ f ih =>
    unfold rankTo
    split
    · omega
    · have h1 := ih (v / 2)
      have h2 : 2 ^ Nat.log2 (v / 2) ≤ v / 2 := Nat.log2_self_le (by omega)
      have h3 : v % 2 < 2 := Nat.mod_lt _ (by omega)
      have h4 : v % 2 = 0 ∨ v % 2 = 1 := by omega
      rcases h4 with h4 | h4 <;> rw [h4] <;> omega

/- What is told out of what has happened at a node (the newest first). -/
def formH : Hist → Int
  | [] => 3
  | e :: r => if e.1.what ≤ 3 then e.1.what else formH r
def fromH : Hist → Ev × Value
  | [] => (⟨3, 0, 0, []⟩, .slice none 0 0)
  | e :: r => if e.1.what ≤ 3 then e else fromH r
def manyH (what n : Int) : Hist → Nat
  | [] => 0
  | e :: r => if 3 < e.1.what then (if e.1.what = what ∧ (n < 0 ∨ e.1.n = n) then 1 else 0) + manyH what n r else 0
def widthH : Hist → Int
  | [] => 1
  | e :: r => if 3 < e.1.what then (if e.1.what = 5 then e.1.n else widthH r) else 1

def takenH (l : Hist) (t : Int) : Bool := decide (0 ≤ t) && decide (0 < manyH 9 t l)

def laidH (t : Int) : Hist → Option Int
  | [] => none
  | e :: r => if 3 < e.1.what then (if e.1.what = 8 ∧ e.1.n = t then some e.1.v else laidH t r) else none
def itemH (l : Hist) (t : Int) : Option Int :=
  if takenH l t = true ∨ t < 0 then none
  else if t < (fromH l).1.items.length then some ((fromH l).1.items.getD t.toNat 0)
  else laidH t l
def itemsTo (l : Hist) (k : Nat) : List Int := (List.range k).filterMap fun j : Nat => itemH l (j : Int)
def putsH (l : Hist) : Int := (fromH l).1.n + manyH 6 (-1) l
def itemsH (l : Hist) : List Int := itemsTo l (putsH l).toNat

theorem itemsTo_le (l : Hist) (k : Nat) : (itemsTo l k).length ≤ k := by
  have := List.length_filterMap_le (fun j : Nat => itemH l (j : Int)) (List.range k)
  simpa [itemsTo] using this

def shutP (v : Int) (p : Pr) : Bool := decide (p.node = v) && (decide (p.phase = 16) || decide (p.phase = 17) || decide (p.phase = 18))
def shutL (v : Int) : List (Nat × Pr) → Bool
  | [] => false
  | p :: r => shutP v p.2 || shutL v r

theorem shutL_append (v : Int) (a b : List (Nat × Pr)) : shutL v (a ++ b) = (shutL v a || shutL v b) := by
  induction a with
  | nil => simp [shutL]
  | cons x a ih => simp [shutL, ih, Bool.or_assoc]

theorem take_succ_get {α : Type} (l : List α) (k : Nat) (h : k < l.length) : l.take (k + 1) = l.take k ++ [l[k]] := by
  rw [List.take_succ_eq_append_getElem h]

/-- From node a up, as long as it is greater than v. -/
def climb : Nat → Nat → Nat → Nat
  | 0, a, _ => a
  | f + 1, a, v => if v < a then climb f (a / 2) v else a
def atP (p : Pr) : Nat := if p.phase = 0 ∨ p.phase = 15 ∨ p.phase = 16 ∨ p.phase = 17 ∨ p.phase = 18 then p.node.toNat / 2 else p.node.toNat
def holdsP (v : Nat) (p : Pr) : Bool := !decide (p.phase = 20) && decide (climb 6 (atP p) v = v)

theorem ret_bool {a b : Bool} (h : a = b) : Ending.returned (.bool a) = .returned (.bool b) := by rw [h]
theorem ret_i {a b : Int} (h : a = b) : Ending.returned (I a) = .returned (I b) := by rw [h]
theorem int_of {a b : Int} (h : a = b) : Value.int .i64 a = .int .i64 b := by rw [h]
def NodeOk (p : Pr) : Prop := p.node = ((p.node.toNat : Nat) : Int) ∧ p.node.toNat < 64

def insideL (v : Nat) : List (Nat × Pr) → Nat
  | [] => 0
  | p :: r => (if holdsP v p.2 then 1 else 0) + insideL v r

theorem insideL_append (v : Nat) (a b : List (Nat × Pr)) : insideL v (a ++ b) = insideL v a + insideL v b := by
  induction a with
  | nil => simp [insideL]
  | cons x a ih => simp [insideL, ih]; omega
theorem insideL_le (v : Nat) (a : List (Nat × Pr)) : insideL v a ≤ a.length := by
  induction a with
  | nil => simp [insideL]
  | cons x a ih => simp only [insideL, List.length_cons]; split <;> omega

def waitP (v k : Int) (p : Pr) : Bool := decide (p.node = v) && decide (p.slot = k) && (decide (p.phase = 6) || decide (p.phase = 7))
def waitsL (v k : Int) : List (Nat × Pr) → Nat → Int
  | [], _ => -1
  | p :: r, i => if waitP v k p.2 then i else waitsL v k r (i + 1)

def liveL : List (Nat × Pr) → Nat
  | [] => 0
  | p :: r => (if p.2.phase = 20 then 0 else 1) + liveL r
theorem liveL_le (a : List (Nat × Pr)) : liveL a ≤ a.length := by
  induction a with
  | nil => simp [liveL]
  | cons x a ih => simp only [liveL, List.length_cons]; split <;> omega

def procV (L : Lay) (n : Int) : Value :=
  if 0 ≤ n ∧ n < L.procs.length then
    .tuple #[.agg #[I (L.procs.getD n.toNat (0, ⟨0, 0, 0, 0, 0, 0, 0, 0, 0, 0, 0, 0, 0⟩)).2.phase, I (L.procs.getD n.toNat (0, ⟨0, 0, 0, 0, 0, 0, 0, 0, 0, 0, 0, 0, 0⟩)).2.node, I (L.procs.getD n.toNat (0, ⟨0, 0, 0, 0, 0, 0, 0, 0, 0, 0, 0, 0, 0⟩)).2.val], I 0]
  else .tuple #[.agg #[I 0, I 0, I 0], I 5]

/-- What is told of a node. -/
structure ND where
  num : Int
  depth : Int
  rank : Int
  inner : Bool
  shut : Bool
  inside : Int
  toggle : Int
  width : Int
  waiting : List Int
  puts : Int
  gets : Int
  items : List Int

/-- One node's cells; wv, iv: its two lists as values. -/
def ndCells (d : ND) (wv iv : Value) : List Value :=
  [I d.num, I d.depth, I d.rank, .bool d.inner, .bool d.shut, I d.inside, I d.toggle, I d.width, wv, I d.puts, I d.gets, iv]
def ndsCells (l : List (ND × Value × Value)) : List Value := l.flatMap fun y => ndCells y.1 y.2.1 y.2.2

/-- x is a list of nodes that lies in blocks from b on. -/
structure NodesRep (w : World) (b : Nat) (x : Value) (l : List (ND × Value × Value)) : Prop where
  row : w.ownsRow b 80 12 x l.length (ndsCells l)
  waiting : ∀ y ∈ l, w.ownsRow b 3 1 y.2.1 y.1.waiting.length (y.1.waiting.map I)
  items : ∀ y ∈ l, w.ownsRow b 3 1 y.2.2 y.1.items.length (y.1.items.map I)

theorem NodesRep.below {w w' : World} {b C : Nat} {x : Value} {l : List (ND × Value × Value)} (h : NodesRep w b x l) (hb : Below C w w') (hC : w.heap.size ≤ C) : NodesRep w' b x l :=
  ⟨ownsRow_below h.row hb hC, fun y hy => ownsRow_below (h.waiting y hy) hb hC, fun y hy => ownsRow_below (h.items y hy) hb hC⟩

def waitTo (v : Int) (ps : List (Nat × Pr)) (k : Nat) : List Int := (List.range k).map fun j : Nat => waitsL v (j : Int) ps 0

def rnode (L : Lay) (v : Nat) : ND :=
  if formH (L.hist v) = 1 then
    ⟨v, Nat.log2 v, rank v, true, shutL v L.procs, insideL v L.procs, ((fromH (L.hist v)).1.n + manyH 4 (-1) (L.hist v)) % 2, widthH (L.hist v), waitTo v L.procs L.c.width.toNat, 0, 0, []⟩
  else ⟨v, Nat.log2 v, rank v, false, shutL v L.procs, insideL v L.procs, 0, 0, [], putsH (L.hist v), manyH 7 (-1) (L.hist v), itemsH (L.hist v)⟩
def rnodesTo (L : Lay) (k : Nat) : List ND := (List.range k).filterMap fun v => if v = 0 ∨ formH (L.hist v) = 3 then none else some (rnode L v)
def rnodes (L : Lay) : List ND := rnodesTo L L.past.length

theorem rnodesTo_le (L : Lay) (k : Nat) : (rnodesTo L k).length ≤ k := by
  have := List.length_filterMap_le (fun v => if v = 0 ∨ formH (L.hist v) = 3 then none else some (rnode L v)) (List.range k)
  simpa [rnodesTo] using this

theorem Tryd.info80 : (Tryd.prog.info? 80).map (fun i => (i.zero, i.size, i.bytes)) = some (some (.agg #[.int .i64 0, .int .i64 0, .int .i64 0, .bool false, .bool false, .int .i64 0, .int .i64 0, .int .i64 0, .slice none 0 0, .int .i64 0, .int .i64 0, .slice none 0 0]), 12, 120) := by kernel_rfl

theorem nb_facts {w : World} {nb : Nat} {arr : Array Value} {T : TypeId} (h : w.heap[nb]? = some (.cells arr T (0, 0))) :
    (∀ j, w.cell? ⟨nb, j, none⟩ = arr[j]?) ∧ (∀ j, w.frozen? ⟨nb, j, none⟩ = false) :=
  ⟨fun j => by simp [World.cell?, h], fun j => by simp [World.frozen?, h]⟩

theorem nb_set {w : World} {nb : Nat} {arr : Array Value} {T : TypeId} (h : w.heap[nb]? = some (.cells arr T (0, 0))) (j : Nat) (x : Value) :
    (w.setCell ⟨nb, j, none⟩ x).heap[nb]? = some (.cells (arr.setIfInBounds j x) T (0, 0)) := by
  simp [World.setCell, Array.getElem?_modify, h]

theorem nb_alloc (w : World) (arr : Array Value) (T : TypeId) : (w.alloc (.cells arr T)).heap[w.heap.size]? = some (.cells arr T (0, 0)) := by
  show (w.heap.push _)[w.heap.size]? = _
  simp

theorem ownsRow_mono {w : World} {b b' : Nat} {e : TypeId} {size : Nat} {v : Value} {n : Nat} {xs : List Value} (h : w.ownsRow b e size v n xs) (hb : b' ≤ b) : w.ownsRow b' e size v n xs := by
  obtain ⟨h1, h2⟩ := h
  refine ⟨h1, ?_⟩
  rcases h2 with h2 | ⟨g, cap, cur, hv, hg, r⟩
  · exact Or.inl h2
  · exact Or.inr ⟨g, cap, cur, hv, Nat.le_trans hb hg, r⟩

theorem ownsRow_block {w : World} {b : Nat} {e : TypeId} {size : Nat} {v : Value} {n : Nat} {xs : List Value} (h : w.ownsRow b e size v n xs) {g : Nat} (hg : v.ownBlock = some g) : ∃ cur, w.heap[g]? = some (.cells cur e (0, 0)) := by
  obtain ⟨_, h2⟩ := h
  rcases h2 with ⟨rfl, _⟩ | ⟨g', cap, cur, rfl, _, hh, _⟩
  · simp [Value.ownBlock] at hg
  · simp [Value.ownBlock] at hg
    subst hg
    exact ⟨cur, hh⟩

/-- A row keeps what it holds while a block of another type is written. -/
theorem ownsRow_setCell_type {w : World} {b : Nat} {e : TypeId} {size : Nat} {v : Value} {n : Nat} {xs : List Value} (h : w.ownsRow b e size v n xs) {nb : Nat} {arr : Array Value} {T : TypeId} {f : Nat × Nat}
    (hn : w.heap[nb]? = some (.cells arr T f)) (hne : T ≠ e) (j : Nat) (x : Value) : (w.setCell ⟨nb, j, none⟩ x).ownsRow b e size v n xs := by
  obtain ⟨h1, h2⟩ := h
  refine ⟨h1, ?_⟩
  rcases h2 with h2 | ⟨g, cap, cur, hv, hg, hh, r⟩
  · exact Or.inl h2
  · refine Or.inr ⟨g, cap, cur, hv, hg, ?_, r⟩
    rw [Below.heap_setCell _ _ _ _ (by
      intro e1
      simp at e1
      subst e1
      rw [hn] at hh
      simp at hh
      exact hne hh.2.1)]
    exact hh

/-- A row keeps what it holds while a row of another type grows. -/
theorem ownsRow_kept_type {w w' : World} {b b' : Nat} {e e' : TypeId} {size size' : Nat} {v v' : Value} {n n' : Nat} {xs xs' : List Value} (h : w.ownsRow b e size v n xs) (h' : w.ownsRow b' e' size' v' n' xs') (hne : e ≠ e')
    (hg : w.grownBy w' v'.ownBlock) : w'.ownsRow b e size v n xs := by
  refine h.kept hg ?_
  cases hv : v.ownBlock with
  | none => exact Or.inl rfl
  | some g =>
    refine Or.inr fun he => ?_
    obtain ⟨c1, h1⟩ := ownsRow_block h hv
    obtain ⟨c2, h2⟩ := ownsRow_block h' he.symm
    rw [h1] at h2
    simp at h2
    exact hne h2.2

theorem nodes_snoc {w w3 : World} {o : Obj} {b nw ni : Nat} {x x' : Value} {l : List (ND × Value × Value)} {d : ND} {wv iv : Value} (h : NodesRep w b x l)
    (hw : w.ownsRow b 3 1 wv nw (d.waiting.map I)) (hi : w.ownsRow b 3 1 iv ni (d.items.map I))
    (hown : w3.ownsRow b 80 12 x' (l.length + 1) (ndsCells l ++ ndCells d wv iv)) (hg : (w.alloc o).grownBy w3 x.ownBlock) : NodesRep w3 b x' (l ++ [(d, wv, iv)]) where
  row := by simpa [ndsCells] using hown
  waiting := fun y hy => by
    rcases List.mem_append.1 hy with hy | hy
    · exact ownsRow_kept_type ((h.waiting y hy).alloc o) (h.row.alloc o) (by decide) hg
    · simp at hy; subst hy
      have : nw = d.waiting.length := by have := hw.1; simpa using this.symm
      subst this
      exact ownsRow_kept_type (hw.alloc o) (h.row.alloc o) (by decide) hg
  items := fun y hy => by
    rcases List.mem_append.1 hy with hy | hy
    · exact ownsRow_kept_type ((h.items y hy).alloc o) (h.row.alloc o) (by decide) hg
    · simp at hy; subst hy
      have : ni = d.items.length := by have := hi.1; simpa using this.symm
      subst this
      exact ownsRow_kept_type (hi.alloc o) (h.row.alloc o) (by decide) hg

theorem cells_new (w : World) (xs : List Value) (T : TypeId) : ∀ (j : Nat) (u : Value), xs[j]? = some u → (w.alloc (.cells xs.toArray T)).cell? ((⟨w.heap.size, 0, none⟩ : Addr).add j) = some u := by
  intro j u h
  have h2 := nb_alloc w xs.toArray T
  have h3 := (nb_facts h2).1 j
  have e : ((⟨w.heap.size, 0, none⟩ : Addr).add j) = ⟨w.heap.size, j, none⟩ := by
    unfold Addr.add
    split <;> simp_all
  rw [e, h3]
  simpa using h

theorem nd_one (d : ND) (a : Option Addr) (n c : Nat) (a' : Option Addr) (n' c' : Nat) : ∀ u ∈ ndCells d (.slice a n c) (.slice a' n' c'), u.oneCell' = true := by
  intro u hu
  simp only [ndCells, List.mem_cons, List.not_mem_nil, or_false] at hu
  rcases hu with h | h | h | h | h | h | h | h | h | h | h | h <;> subst h <;> rfl

def mayC (c : Conf) : Bool := decide ((c.kind = 0 ∨ c.kind = 1) ∧ 0 ≤ c.depth ∧ c.depth ≤ 4 ∧ 0 ≤ c.start ∧ c.start ≤ c.depth ∧ 1 ≤ c.slots ∧ c.slots ≤ 4 ∧ 1 ≤ c.width ∧ c.width ≤ 4 ∧ 0 ≤ c.spin ∧ c.spin ≤ 8 ∧ 0 ≤ c.drain ∧ c.drain ≤ 16 ∧ 1 ≤ c.procs ∧ c.procs ≤ 16)
def confV (c : Conf) : Value := .agg #[I c.kind, I c.depth, I c.start, I c.slots, I c.width, I c.spin, I c.drain, I c.procs]

theorem mayC_mk {c : Conf} {b : Bool} (h : b = true ↔ ((c.kind = 0 ∨ c.kind = 1) ∧ 0 ≤ c.depth ∧ c.depth ≤ 4 ∧ 0 ≤ c.start ∧ c.start ≤ c.depth ∧ 1 ≤ c.slots ∧ c.slots ≤ 4 ∧ 1 ≤ c.width ∧ c.width ≤ 4 ∧ 0 ≤ c.spin ∧ c.spin ≤ 8 ∧ 0 ≤ c.drain ∧ c.drain ≤ 16 ∧ 1 ≤ c.procs ∧ c.procs ≤ 16)) : b = mayC c := by
  rw [Bool.eq_iff_iff, h]; simp [mayC]

/-- From B on only blocks of the types T have turned; below B none. -/
structure ChgT (B : Nat) (T : List TypeId) (w w' : World) : Prop where
  os : w'.os = w.os
  tape : w'.tape = w.tape
  output : w'.output = w.output
  size : w.heap.size ≤ w'.heap.size
  block : ∀ k, k < w.heap.size → (k < B ∨ ∀ c e f, w.heap[k]? = some (.cells c e f) → e ∉ T) → w'.heap[k]? = w.heap[k]?

theorem ChgT.refl (B : Nat) (T : List TypeId) (w : World) : ChgT B T w w := ⟨rfl, rfl, rfl, Nat.le_refl _, fun _ _ _ => rfl⟩
theorem ChgT.trans {B : Nat} {T : List TypeId} {a b c : World} (h : ChgT B T a b) (k : ChgT B T b c) : ChgT B T a c :=
  ⟨k.os.trans h.os, k.tape.trans h.tape, k.output.trans h.output, Nat.le_trans h.size k.size, fun i hi hc => by
    have h1 := h.block i hi hc
    rw [← h1]
    refine k.block i (Nat.lt_of_lt_of_le hi h.size) ?_
    rcases hc with hc | hc
    · exact Or.inl hc
    · exact Or.inr fun c' e f hh => hc c' e f (by rw [← h1]; exact hh)⟩
theorem ChgT.of_below {B : Nat} {T : List TypeId} {a b : World} (h : Below a.heap.size a b) : ChgT B T a b :=
  ⟨h.os, h.tape, h.output, h.size, fun k hk _ => h.block k hk⟩
theorem ChgT.below {B : Nat} {T : List TypeId} {a b : World} (h : ChgT B T a b) (hB : B ≤ a.heap.size) : Below B a b :=
  ⟨h.os, h.tape, h.output, h.size, fun k hk => h.block k (by omega) (Or.inl hk)⟩
theorem ChgT.mono {B B' : Nat} {T T' : List TypeId} {a b : World} (h : ChgT B T a b) (hB : B' ≤ B) (hT : ∀ e, e ∈ T → e ∈ T') : ChgT B' T' a b :=
  ⟨h.os, h.tape, h.output, h.size, fun k hk hc => h.block k hk (by
    rcases hc with hc | hc
    · exact Or.inl (by omega)
    · exact Or.inr fun c e f hh he => hc c e f hh (hT e he))⟩
theorem ChgT.at {B : Nat} {T : List TypeId} {a b : World} (h : ChgT B T a b) {k : Nat} {c : Array Value} {e : TypeId} {f : Nat × Nat} (hk : a.heap[k]? = some (.cells c e f)) (he : e ∉ T) : b.heap[k]? = some (.cells c e f) := by
  rw [h.block k (Array.getElem?_eq_some_iff.1 hk).1 (Or.inr fun c' e' f' hh => by rw [hk] at hh; simp at hh; rw [← hh.2.1]; exact he)]
  exact hk
theorem ChgT.row {B : Nat} {T : List TypeId} {a b : World} (h : ChgT B T a b) {base : Nat} {e : TypeId} {size : Nat} {v : Value} {n : Nat} {xs : List Value} (hr : a.ownsRow base e size v n xs) (he : e ∉ T) : b.ownsRow base e size v n xs := by
  obtain ⟨h1, h2⟩ := hr
  refine ⟨h1, ?_⟩
  rcases h2 with h2 | ⟨g, cap, cur, hv, hg, hh, r⟩
  · exact Or.inl h2
  · exact Or.inr ⟨g, cap, cur, hv, hg, h.at hh he, r⟩

/-- What has happened at node u of a new tree. -/
def newHist (start : Int) (u : Nat) : Hist :=
  if ((Nat.log2 u : Nat) : Int) < start then [(⟨1, 0, 0, []⟩, .slice none 0 0)]
  else if ((Nat.log2 u : Nat) : Int) = start then [(⟨2, 0, 0, []⟩, .slice none 0 0)] else []

structure NewLay (c : Conf) (L : Lay) : Prop where
  conf : L.c = c
  procs : L.procs = []
  len : L.past.length = 2 ^ (c.depth.toNat + 1)
  hist : ∀ u, 1 ≤ u → u < L.past.length → L.hist u = newHist c.start u
  hist0 : L.hist 0 = []

end Go.Proofs.YtjnmpejcegmkhabDoor

namespace Go.Proofs.YtjnmpejcegmkhabDoor
open Go.RowKit
set_option linter.unusedVariables false

theorem Below.drewN' {B : Nat} {a w : World} (h : Below B a w) (n : Nat) : Below B a (w.drewN n) := by
  induction n with
  | zero => exact h
  | succ n ih => exact ih.drew

theorem ndsCells_at (l : List (ND × Value × Value)) (k : Nat) (hk : k < l.length) (j : Nat) (hj : j < 12) : (ndsCells l)[k * 12 + j]? = (ndCells (l[k]).1 (l[k]).2.1 (l[k]).2.2)[j]? := by
  induction l generalizing k with
  | nil => simp at hk
  | cons x l ih =>
    have hx : (ndCells x.1 x.2.1 x.2.2).length = 12 := rfl
    cases k with
    | zero =>
      simp only [ndsCells, List.flatMap_cons, Nat.zero_mul, Nat.zero_add, List.getElem_cons_zero]
      rw [List.getElem?_append_left (by omega)]
    | succ k =>
      simp only [ndsCells, List.flatMap_cons, List.getElem_cons_succ]
      rw [List.getElem?_append_right (by omega), hx, show (k + 1) * 12 + j - 12 = k * 12 + j from by omega]
      exact ih k (by simpa using hk)

theorem nodes_at {w : World} {b : Nat} {x : Value} {l : List (ND × Value × Value)} (h : NodesRep w b x l) (k : Nat) (hk : k < l.length) :
    ∃ g, (∀ ao n c, x = .slice ao n c → ao = some ⟨g, 0, none⟩) ∧ g < w.heap.size ∧ ∀ j, j < 12 → w.cell? ⟨g, k * 12 + j, none⟩ = (ndCells (l[k]).1 (l[k]).2.1 (l[k]).2.2)[j]? := by
  obtain ⟨ao, cap, h1, h2, h3, h4, h5⟩ := ownsRow_cells h.row
  have key : ∀ j, j < 12 → ∃ g, ao = some ⟨g, 0, none⟩ ∧ w.cell? ⟨g, k * 12 + j, none⟩ = (ndCells (l[k]).1 (l[k]).2.1 (l[k]).2.2)[j]? := by
    intro j hj
    have e := ndsCells_at l k hk j hj
    have hlt : j < (ndCells (l[k]).1 (l[k]).2.1 (l[k]).2.2).length := hj
    obtain ⟨g, e1, _, c⟩ := h5 (k * 12 + j) ((ndCells (l[k]).1 (l[k]).2.1 (l[k]).2.2)[j]) (by rw [e, List.getElem?_eq_getElem hlt])
    exact ⟨g, e1, by rw [c, List.getElem?_eq_getElem hlt]⟩
  obtain ⟨g, rfl, c0⟩ := key 0 (by omega)
  refine ⟨g, fun ao n c hx => by rw [h1] at hx; simp at hx; exact hx.1.symm, ?_, fun j hj => ?_⟩
  · have hlt : 0 < (ndCells (l[k]).1 (l[k]).2.1 (l[k]).2.2).length := by simp [ndCells]
    rw [List.getElem?_eq_getElem hlt] at c0
    exact cell_lt c0
  · obtain ⟨g', e, c⟩ := key j hj
    simp at e
    subst e
    exact c

/-- What a program's tree owes to agree with the document's. -/
structure Agree (w : World) (pt : Value) (L : Lay) : Prop where
  nodes : ∀ W, Below w.heap.size w W → Calls Tryd.prog 13 #[pt] W fun e w' => ∃ x l, e = .returned x ∧ NodesRep w' W.heap.size x l ∧ l.map (fun y => y.1) = rnodes L ∧ Below W.heap.size W w'
  proc : ∀ W, Below w.heap.size w W → ∀ p, Calls Tryd.prog 15 #[pt, I p] W fun x w' => x = .returned (procV L p) ∧ Below W.heap.size W w'

structure Op3 where
  kind : Int
  val : Int
  node : Int
def opV (o : Op3) : Value := .agg #[I o.kind, I o.val, I o.node]

def isChange (o : Op3) : Bool := decide (o.kind = 3) || decide (o.kind = 4)

/-- Has a tree of the configuration c the operation o? -/
def okOp (c : Conf) (o : Op3) : Prop :=
  ((o.kind = 3 ∨ o.kind = 4) ∧ 1 ≤ o.node ∧ o.node < ((2 ^ c.depth.toNat : Nat) : Int)) ∨ (o.kind = 0 ∧ c.kind = 0) ∨ ((o.kind = 1 ∨ o.kind = 2) ∧ c.kind = 1)

def newPr (o : Op3) : Pr := ⟨o.kind, o.val, o.node, if isChange o ∧ o.node = 1 then 15 else 0, 1, 0, 0, 0, 0, 0, -1, 0, 0⟩

end Go.Proofs.YtjnmpejcegmkhabDoor

namespace Go.Proofs.YtjnmpejcegmkhabDoor
open Go.RowKit
set_option linter.unusedVariables false

/-- Nothing but block b has turned; it holds cs now. -/
structure PutB (w w' : World) (b : Nat) (cs : Array Value) (T : TypeId) : Prop where
  os : w'.os = w.os
  tape : w'.tape = w.tape
  output : w'.output = w.output
  size : w'.heap.size = w.heap.size
  blk : w'.heap[b]? = some (.cells cs T (0, 0))
  other : ∀ k, k ≠ b → w'.heap[k]? = w.heap[k]?

abbrev Lay.setP (L : Lay) (i : Nat) (p : Pr) : Lay := { L with procs := L.procs.set i ((L.procs.getD i (0, p)).1, p) }

def upPr (p : Pr) : Pr := { p with node := p.node / 2, phase := if p.node / 2 = 0 then 20 else 19 }

def settledPr (p q : Pr) (b : Int) : Pr :=
  if p.kind = q.kind then { p with node := 2 * p.node + b, phase := 0 }
  else if p.kind = 2 then { p with val := q.oval, phase := 19 } else { p with phase := 19 }

theorem tmod_twice (x : Int) (m : Int) (hm : 0 < m) : (x.tmod m + m).tmod m = x % m := by
  have h1 : -m < x.tmod m := by
    rcases Int.le_total 0 x with hx | hx
    · have := Int.tmod_nonneg m hx; omega
    · have h2 : (-x).tmod m = -(x.tmod m) := Int.neg_tmod x m
      have h3 := Int.tmod_lt_of_pos (-x) hm
      omega
  rw [Int.tmod_eq_emod_of_nonneg (by omega), Int.add_emod_right]
  rcases Int.le_total 0 x with hx | hx
  · rw [Int.tmod_eq_emod_of_nonneg hx, Int.emod_emod]
  · have h2 := Int.tmod_def x m
    have : x.tmod m = x + m * (-(x.tdiv m)) := by rw [Int.mul_neg]; omega
    rw [this, Int.add_mul_emod_self_left]

/-- The cells of process i, as the walks ask for them. -/
structure ProcAt (w : World) (L : Lay) (i : Nat) (pb : Nat) (p : Pr) : Prop where
  hi : i < L.procs.length
  blk : w.heap[pb]? = some (.cells (prCells p) 1000002 (0, 0))
  eb : (L.procs.getD i (0, p)).1 = pb
  ep : (L.procs.getD i (0, p)).2 = p

def waitPr (p : Pr) : Pr := if 0 ≤ p.met then { p with phase := 7 } else if 0 < p.pat then { p with pat := p.pat - 1 } else { p with phase := 10 }

/-- Between 1 and the configuration's width. -/
def clip (cw z : Int) : Int := if (if cw < z then cw else z) < 1 then 1 else (if cw < z then cw else z)

/-- Does who is kept in mind still wait in the slot, and was not met? -/
def meets (L : Lay) (p q : Pr) : Bool := decide (waitsL p.node p.slot L.procs 0 = p.mind) && decide (q.phase = 6) && decide (q.met < 0)

/-- Where an Inc, a Put or a Get goes from Look. -/
def lookPr (L : Lay) (v : Nat) (p : Pr) : Pr := { p with phase := if shutL p.node L.procs = true then 2 else if formH (L.hist v) = 1 then 3 else 12 }

theorem Lay.setP_self {L : Lay} {i : Nat} (hi : i < L.procs.length) (a b : Pr) : (L.setP i a).setP i b = L.setP i b := by
  unfold Lay.setP
  simp only [List.getD_eq_getElem?_getD]
  congr 1
  rw [List.set_set, List.getElem?_set_self hi, List.getElem?_eq_getElem hi]
  rfl

/-- Something has happened at node v. -/
abbrev Lay.hap (L : Lay) (v : Nat) (x : Value) (ev : Ev) (iv : Value) : Lay := { L with past := L.past.set v (x, (ev, iv) :: L.hist v) }

/-- How many items the leaf v can hold. -/
def roomOf (c : Conf) (v : Nat) : Int := c.slots * 2 ^ (c.depth.toNat - Nat.log2 v)

/-- Whether what is to be stored under the ticket has room. -/
def roomyH (c : Conf) (v : Nat) (l : Hist) (t : Int) : Bool := decide (t < roomOf c v) || takenH l (t - roomOf c v)

/-- One step more is counted. -/
abbrev incPr (p : Pr) : Pr := { p with steps := wrap64 (p.steps + 1) }

def togH (l : Hist) : Int := ((fromH l).1.n + manyH 4 (-1) l) % 2

end Go.Proofs.YtjnmpejcegmkhabDoor
