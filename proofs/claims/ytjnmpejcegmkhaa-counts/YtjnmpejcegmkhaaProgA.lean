/- What a tree of package prismref is in memory (RefRep), said of plain data; small facts on it. Contracts of package prismref's functions that only read: each returns what a plain function of the tree's data tells. Contracts of package prismref's functions that only read, second part: many, width, from, toggle, puts, gets. Contracts of package prismref's functions that only read, third part: item, items. Contracts of package prismref's functions that only read, fourth part: those over the processes. Contracts of package prismref's functions that only read, fifth part: waits, Live, Proc, Changes. The contract of package prismref's Nodes. The contract of package prismref's May. Contracts of package prismref's happens, May and New. What happens at a node, said of the tree's data. The contract of package prismref's New. No statement of the seat is proved here. Contracts of package prismkeep's small functions: within, good, pick, changer, among. No statement of the seat is proved here. Contracts of the statements' own comparisons (package prismlaw): of two answers that are alike they say so. The contract of package prismref's Spawn. No statement of the seat is proved here. Contracts of the program's own functions: isConfig, firstOfDepth, place, waiting, values. What a tree of the program is in memory; the contracts of tell, Nodes and Proc. The contract of the program's Proc. The contract of the program's Nodes. Contracts of the program's plant and New. No statement of the seat is proved here. -/
import Derived.Test.YtjnmpejcegmkhaaRows
import Derived.WalkKit
import Derived.WalkSpells
import Derived.WalkLawsBesides
import Derived.Deep.QuietTactic
import Derived.BigQuiet
import Derived.Deep.RegionLaw
import Derived.Deep.AppendLies
import Derived.Deep.RegionWith
import Derived.Deep.MidRow
namespace Go.Proofs.Ytjnmpejcegmkhaa
open Go.RowKit
set_option linter.unusedVariables false

abbrev I (n : Int) : Value := .int .i64 n

structure Ev where
  what : Int
  n : Int
  v : Int
  items : List Int

structure Pr where
  kind : Int
  oval : Int
  onode : Int
  phase : Int
  node : Int
  val : Int
  wide : Int
  slot : Int
  pat : Int
  mind : Int
  met : Int
  ticket : Int
  steps : Int

structure Conf where
  kind : Int
  depth : Int
  start : Int
  slots : Int
  width : Int
  spin : Int
  drain : Int
  procs : Int

abbrev Hist := List (Ev × Value)

structure Lay where
  tb : Nat
  c : Conf
  pv : Value
  procs : List (Nat × Pr)
  hv : Value
  past : List (Value × Hist)

def treeCells (L : Lay) : Array Value := #[I L.c.kind, I L.c.depth, I L.c.start, I L.c.slots, I L.c.width, I L.c.spin, I L.c.drain, I L.c.procs, L.pv, L.hv]
def prCells (p : Pr) : Array Value := #[I p.kind, I p.oval, I p.onode, I p.phase, I p.node, I p.val, I p.wide, I p.slot, I p.pat, I p.mind, I p.met, I p.ticket, I p.steps]
def evCells (e : Ev × Value) : List Value := [I e.1.what, I e.1.n, I e.1.v, e.2]
def histCells : Hist → List Value
  | [] => []
  | e :: r => histCells r ++ evCells e

structure RefRep (w : World) (B : Nat) (L : Lay) : Prop where
  no : False
  tree : w.heap[L.tb]? = some (.cells (treeCells L) 1000000 (0, 0))
  treeB : B ≤ L.tb
  prow : w.ownsRow B 1000001 1 L.pv L.procs.length (L.procs.map fun p => .pointer (some ⟨p.1, 0, none⟩))
  pblk : ∀ i, (hi : i < L.procs.length) → w.heap[(L.procs[i]).1]? = some (.cells (prCells (L.procs[i]).2) 1000002 (0, 0)) ∧ B ≤ (L.procs[i]).1
  pnd : ∀ i j, (hi : i < L.procs.length) → (hj : j < L.procs.length) → (L.procs[i]).1 = (L.procs[j]).1 → i = j
  hrow : w.ownsRow B 1000003 1 L.hv L.past.length (L.past.map fun x => x.1)
  hist : ∀ i, (hi : i < L.past.length) → w.ownsRow B 1000004 4 (L.past[i]).1 (L.past[i]).2.length (histCells (L.past[i]).2)
  items : ∀ i, (hi : i < L.past.length) → ∀ y ∈ (L.past[i]).2, w.ownsRow B 3 1 y.2 y.1.items.length (y.1.items.map I)
  hnd : ∀ i j, (hi : i < L.past.length) → (hj : j < L.past.length) → ∀ g, (L.past[i]).1.ownBlock = some g → (L.past[j]).1.ownBlock = some g → i = j

theorem histCells_length (l : Hist) : (histCells l).length = l.length * 4 := by
  induction l with
  | nil => rfl
  | cons e r ih => simp [histCells, evCells, ih]; omega

/-- The cells of the event that has r behind it (older than it). -/
theorem histCells_at (a : Hist) (e : Ev × Value) (r : Hist) (j : Nat) (hj : j < 4) : (histCells (a ++ e :: r))[r.length * 4 + j]? = (evCells e)[j]? := by
  induction a with
  | nil =>
    simp only [List.nil_append, histCells]
    rw [List.getElem?_append_right (by rw [histCells_length]; omega), histCells_length]
    congr 1; omega
  | cons x a ih =>
    simp only [List.cons_append, histCells]
    rw [List.getElem?_append_left (by rw [histCells_length]; simp; omega)]
    exact ih

theorem ownsRow_cells {w : World} {base : Nat} {e : TypeId} {size : Nat} {v : Value} {n : Nat} {xs : List Value} (h : w.ownsRow base e size v n xs) :
    ∃ ao cap, v = .slice ao n cap ∧ n ≤ cap ∧ n ≤ maxLen ∧ cap ≤ maxLen ∧ ∀ j u, xs[j]? = some u → ∃ g, ao = some ⟨g, 0, none⟩ ∧ base ≤ g ∧ w.cell? ⟨g, j, none⟩ = some u := by
  obtain ⟨h1, h2⟩ := h
  rcases h2 with ⟨rfl, rfl⟩ | ⟨g, cap, cur, rfl, hg, hh, hn, hc, hcs, ht⟩
  · refine ⟨none, 0, rfl, Nat.le_refl _, Nat.zero_le _, Nat.zero_le _, fun j u hj => ?_⟩
    simp at h1; subst h1; simp at hj
  · refine ⟨some ⟨g, 0, none⟩, cap, rfl, hn, Nat.le_trans hn hc, hc, fun j u hj => ⟨g, rfl, hg, ?_⟩⟩
    subst ht
    have hj' : j < n * size := by
      have := List.getElem?_eq_some_iff.1 hj
      obtain ⟨hlt, _⟩ := this
      simp at hlt; omega
    rw [List.getElem?_take_of_lt hj'] at hj
    simp [World.cell?, hh]
    simpa using hj

theorem block_cell {w : World} {b : Nat} {cs : Array Value} {e : TypeId} {f : Nat × Nat} (h : w.heap[b]? = some (.cells cs e f)) (j : Nat) : w.cell? ⟨b, j, none⟩ = cs[j]? := by
  simp [World.cell?, h]

theorem cell_lt {w : World} {b o : Nat} {v : Value} (h : w.cell? ⟨b, o, none⟩ = some v) : b < w.heap.size := by
  unfold World.cell? at h
  split at h
  · next hh => exact (Array.getElem?_eq_some_iff.1 hh).1
  · simp at h

/-- What is read of the tree itself. -/
theorem RefRep.hv_cell {w : World} {B : Nat} {L : Lay} (h : RefRep w B L) : w.cell? ⟨L.tb, 9, none⟩ = some L.hv := h.no.elim
theorem RefRep.pv_cell {w : World} {B : Nat} {L : Lay} (h : RefRep w B L) : w.cell? ⟨L.tb, 8, none⟩ = some L.pv := h.no.elim
theorem RefRep.past_at {w : World} {B : Nat} {L : Lay} (h : RefRep w B L) {v : Nat} (hv : v < L.past.length) :
    ∃ hb cap, L.hv = .slice (some ⟨hb, 0, none⟩) L.past.length cap ∧ L.past.length ≤ cap ∧ cap ≤ maxLen ∧ w.cell? ⟨hb, v, none⟩ = some (L.past[v]).1 := h.no.elim
def Lay.hist (L : Lay) (v : Nat) : Hist := (L.past.getD v (.slice none 0 0, [])).2

theorem RefRep.hist_at {w : World} {B : Nat} {L : Lay} (h : RefRep w B L) {v : Nat} (hv : v < L.past.length) :
    ∃ ao cap, (L.past[v]).1 = .slice ao (L.hist v).length cap ∧ (L.hist v).length ≤ cap ∧ (L.hist v).length ≤ maxLen ∧
      ∀ a e r, L.hist v = a ++ e :: r → ∃ lb, ao = some ⟨lb, 0, none⟩ ∧ w.cell? ⟨lb, r.length * 4, none⟩ = some (I e.1.what) ∧ w.cell? ⟨lb, r.length * 4 + 1, none⟩ = some (I e.1.n) ∧
        w.cell? ⟨lb, r.length * 4 + 2, none⟩ = some (I e.1.v) ∧ w.cell? ⟨lb, r.length * 4 + 3, none⟩ = some e.2 := h.no.elim
theorem RefRep.items_at {w : World} {B : Nat} {L : Lay} (h : RefRep w B L) {v : Nat} (hv : v < L.past.length) {e : Ev × Value} (he : e ∈ L.hist v) :
    ∃ ao cap, e.2 = .slice ao e.1.items.length cap ∧ e.1.items.length ≤ cap ∧ e.1.items.length ≤ maxLen ∧
      ∀ i, (hi : i < e.1.items.length) → ∃ g, ao = some ⟨g, 0, none⟩ ∧ w.cell? ⟨g, i, none⟩ = some (I e.1.items[i]) := h.no.elim
theorem RefRep.proc_at {w : World} {B : Nat} {L : Lay} (h : RefRep w B L) :
    ∃ ao cap, L.pv = .slice ao L.procs.length cap ∧ L.procs.length ≤ cap ∧ L.procs.length ≤ maxLen ∧ cap ≤ maxLen ∧
      ∀ i, (hi : i < L.procs.length) → ∃ g, ao = some ⟨g, 0, none⟩ ∧ w.cell? ⟨g, i, none⟩ = some (.pointer (some ⟨(L.procs[i]).1, 0, none⟩)) := h.no.elim
theorem RefRep.size {w : World} {B : Nat} {L : Lay} (h : RefRep w B L) : L.tb < w.heap.size := h.no.elim
/-- What only grows keeps a tree. -/
theorem ownsRow_below {w w' : World} {C : Nat} {base : Nat} {e : TypeId} {size : Nat} {v : Value} {n : Nat} {xs : List Value} (h : w.ownsRow base e size v n xs) (hb : Below C w w') (hC : w.heap.size ≤ C) : w'.ownsRow base e size v n xs := by
  obtain ⟨h1, h2⟩ := h
  refine ⟨h1, ?_⟩
  rcases h2 with h2 | ⟨g, cap, cur, hv, hg, hh, r⟩
  · exact Or.inl h2
  · have : g < w.heap.size := (Array.getElem?_eq_some_iff.1 hh).1
    exact Or.inr ⟨g, cap, cur, hv, hg, by rw [hb.block g (by omega)]; exact hh, r⟩

theorem RefRep.below {w w' : World} {B : Nat} {L : Lay} (h : RefRep w B L) (hb : Below w.heap.size w w') : RefRep w' B L := h.no.elim
theorem sh_small (k : Nat) (hk : k ≤ 5) : wrap64 (2 * 2 ^ k) = ((2 ^ (k + 1) : Nat) : Int) := by
  have : k = 0 ∨ k = 1 ∨ k = 2 ∨ k = 3 ∨ k = 4 ∨ k = 5 := by omega
  rcases this with rfl | rfl | rfl | rfl | rfl | rfl <;> decide +kernel

theorem log2_le5 (v : Nat) (hv : v < 64) : Nat.log2 v ≤ 5 := by
  by_cases h0 : v = 0
  · subst h0; decide
  · have := (Nat.log2_lt (n := v) (k := 6) h0).2 (by omega)
    omega

/-- Rank of node v, by its halves. -/
def rankTo : Nat → Nat → Nat
  | 0, _ => 0
  | f + 1, v => if v ≤ 1 then 0 else rankTo f (v / 2) + v % 2 * 2 ^ Nat.log2 (v / 2)
def rank (v : Nat) : Nat := rankTo 6 v

theorem sh_one (k : Nat) (hk : k ≤ 5) : wrap64 (2 ^ k) = ((2 ^ k : Nat) : Int) := by
  have : k = 0 ∨ k = 1 ∨ k = 2 ∨ k = 3 ∨ k = 4 ∨ k = 5 := by omega
  rcases this with rfl | rfl | rfl | rfl | rfl | rfl <;> decide +kernel

theorem rankTo_le (f v : Nat) : rankTo f v ≤ v := by
  induction f generalizing v with
  | zero => simp [rankTo]
  | succ f ih =>
    unfold rankTo
    split
    · omega
    · have h1 := ih (v / 2)
      have h2 : 2 ^ Nat.log2 (v / 2) ≤ v / 2 := Nat.log2_self_le (by omega)
      have h3 : v % 2 < 2 := Nat.mod_lt _ (by omega)
      have h4 : v % 2 = 0 ∨ v % 2 = 1 := by omega
      rcases h4 with h4 | h4 <;> rw [h4] <;> omega

/- What is told out of what has happened at a node (the newest first). -/
def sinceH : Hist → Int
  | [] => -1
  | e :: r => if e.1.what ≤ 3 then r.length else sinceH r
def formH : Hist → Int
  | [] => 3
  | e :: r => if e.1.what ≤ 3 then e.1.what else formH r
def fromH : Hist → Ev × Value
  | [] => (⟨3, 0, 0, []⟩, .slice none 0 0)
  | e :: r => if e.1.what ≤ 3 then e else fromH r
def manyH (what n : Int) : Hist → Nat
  | [] => 0
  | e :: r => if 3 < e.1.what then (if e.1.what = what ∧ (n < 0 ∨ e.1.n = n) then 1 else 0) + manyH what n r else 0
def widthH : Hist → Int
  | [] => 1
  | e :: r => if 3 < e.1.what then (if e.1.what = 5 then e.1.n else widthH r) else 1

set_option maxHeartbeats 400000 in
theorem since_c {w : World} {B : Nat} {L : Lay} (h : RefRep w B L) (v : Nat) (hv : v < L.past.length) :
    Calls Try.prog 1000005 #[.pointer (some ⟨L.tb, 0, none⟩), I v] w fun e w' => e = .returned (I (sinceH (L.hist v))) ∧ w' = w := h.no.elim
theorem sinceH_split (l : Hist) : (sinceH l = -1 ∧ formH l = 3 ∧ fromH l = (⟨3, 0, 0, []⟩, .slice none 0 0)) ∨ ∃ a e r, l = a ++ e :: r ∧ sinceH l = r.length ∧ formH l = e.1.what ∧ fromH l = e := by
  induction l with
  | nil => exact Or.inl ⟨rfl, rfl, rfl⟩
  | cons x l ih =>
    by_cases hw : x.1.what ≤ 3
    · exact Or.inr ⟨[], x, l, rfl, by simp [sinceH, hw], by simp [formH, hw], by simp [fromH, hw]⟩
    · rcases ih with ⟨h1, h2, h3⟩ | ⟨a, e, r, h1, h2, h3, h4⟩
      · exact Or.inl ⟨by simp [sinceH, hw, h1], by simp [formH, hw, h2], by simp [fromH, hw, h3]⟩
      · exact Or.inr ⟨x :: a, e, r, by simp [h1], by simp [sinceH, hw, h2], by simp [formH, hw, h3], by simp [fromH, hw, h4]⟩

set_option maxHeartbeats 400000 in
theorem form_c {w : World} {B : Nat} {L : Lay} (h : RefRep w B L) (v : Nat) (hv : v < L.past.length) :
    Calls Try.prog 1000006 #[.pointer (some ⟨L.tb, 0, none⟩), I v] w fun e w' => e = .returned (I (formH (L.hist v))) ∧ w' = w := h.no.elim
set_option maxHeartbeats 1000000 in
theorem many_c {w : World} {B : Nat} {L : Lay} (h : RefRep w B L) (v : Nat) (hv : v < L.past.length) (what n : Int) :
    Calls Try.prog 1000007 #[.pointer (some ⟨L.tb, 0, none⟩), I v, I what, I n] w fun e w' => e = .returned (I (manyH what n (L.hist v))) ∧ w' = w := h.no.elim
set_option maxHeartbeats 1000000 in
theorem width_c {w : World} {B : Nat} {L : Lay} (h : RefRep w B L) (v : Nat) (hv : v < L.past.length) :
    Calls Try.prog 1000008 #[.pointer (some ⟨L.tb, 0, none⟩), I v] w fun e w' => e = .returned (I (widthH (L.hist v))) ∧ w' = w := h.no.elim
set_option maxHeartbeats 1000000 in
theorem from_c {w : World} {B : Nat} {L : Lay} (h : RefRep w B L) (v : Nat) (hv : v < L.past.length) :
    Calls Try.prog 1000009 #[.pointer (some ⟨L.tb, 0, none⟩), I v] w fun e w' => e = .returned (.agg #[I (fromH (L.hist v)).1.what, I (fromH (L.hist v)).1.n, I (fromH (L.hist v)).1.v, (fromH (L.hist v)).2]) ∧ Below w.heap.size w w' := h.no.elim
set_option maxHeartbeats 1000000 in
theorem toggle_c {w : World} {B : Nat} {L : Lay} (h : RefRep w B L) (v : Nat) (hv : v < L.past.length) (h0 : 0 ≤ (fromH (L.hist v)).1.n) (h9 : (fromH (L.hist v)).1.n ≤ 1000000000000000000) (hk : manyH 4 (-1) (L.hist v) ≤ 1000000000000000000) :
    Calls Try.prog 1000010 #[.pointer (some ⟨L.tb, 0, none⟩), I v] w fun e w' => e = .returned (I (((fromH (L.hist v)).1.n + manyH 4 (-1) (L.hist v)) % 2)) ∧ Below w.heap.size w w' := h.no.elim
theorem fromH_slice {w : World} {B : Nat} {L : Lay} (h : RefRep w B L) (v : Nat) (hv : v < L.past.length) : ∃ ao cap, (fromH (L.hist v)).2 = .slice ao (fromH (L.hist v)).1.items.length cap ∧ (fromH (L.hist v)).1.items.length ≤ cap ∧ (fromH (L.hist v)).1.items.length ≤ maxLen ∧
      ∀ i, (hi : i < (fromH (L.hist v)).1.items.length) → ∃ g, ao = some ⟨g, 0, none⟩ ∧ w.cell? ⟨g, i, none⟩ = some (I (fromH (L.hist v)).1.items[i]) := h.no.elim
set_option maxHeartbeats 1000000 in
theorem puts_c {w : World} {B : Nat} {L : Lay} (h : RefRep w B L) (v : Nat) (hv : v < L.past.length) (h0 : 0 ≤ (fromH (L.hist v)).1.n) (h9 : (fromH (L.hist v)).1.n ≤ 1000000000000000000) (hk : manyH 6 (-1) (L.hist v) ≤ 1000000000000000000) :
    Calls Try.prog 1000011 #[.pointer (some ⟨L.tb, 0, none⟩), I v] w fun e w' => e = .returned (I ((fromH (L.hist v)).1.n + manyH 6 (-1) (L.hist v))) ∧ Below w.heap.size w w' := h.no.elim
set_option maxHeartbeats 1000000 in
theorem gets_c {w : World} {B : Nat} {L : Lay} (h : RefRep w B L) (v : Nat) (hv : v < L.past.length) :
    Calls Try.prog 1000012 #[.pointer (some ⟨L.tb, 0, none⟩), I v] w fun e w' => e = .returned (I (manyH 7 (-1) (L.hist v))) ∧ w' = w := h.no.elim
def takenH (l : Hist) (t : Int) : Bool := decide (0 ≤ t) && decide (0 < manyH 9 t l)

set_option maxHeartbeats 1000000 in
theorem taken_c {w : World} {B : Nat} {L : Lay} (h : RefRep w B L) (v : Nat) (hv : v < L.past.length) (t : Int) :
    Calls Try.prog 1000013 #[.pointer (some ⟨L.tb, 0, none⟩), I v, I t] w fun e w' => e = .returned (.bool (takenH (L.hist v) t)) ∧ w' = w := h.no.elim
def laidH (t : Int) : Hist → Option Int
  | [] => none
  | e :: r => if 3 < e.1.what then (if e.1.what = 8 ∧ e.1.n = t then some e.1.v else laidH t r) else none
def itemH (l : Hist) (t : Int) : Option Int :=
  if takenH l t = true ∨ t < 0 then none
  else if t < (fromH l).1.items.length then some ((fromH l).1.items.getD t.toNat 0)
  else laidH t l
def optV (x : Option Int) : Value := .tuple #[I (x.getD 0), .bool x.isSome]

theorem ret2_ok {a b : Value} {x : Option Int} (h1 : a = I (x.getD 0)) (h2 : b = .bool x.isSome) : Ending.returned (.tuple #[a, b]) = .returned (optV x) := by rw [h1, h2]; rfl

set_option maxHeartbeats 2000000 in
theorem item_c {w : World} {B : Nat} {L : Lay} (h : RefRep w B L) (v : Nat) (hv : v < L.past.length) (t : Int) :
    Calls Try.prog 1000014 #[.pointer (some ⟨L.tb, 0, none⟩), I v, I t] w fun e w' => e = .returned (optV (itemH (L.hist v) t)) ∧ Below w.heap.size w w' := h.no.elim
theorem Try.info3 : (Try.prog.info? 3).map (fun i => (i.zero, i.size, i.bytes)) = some (some (.int .i64 0), 1, 8) := by kernel_rfl

def itemsTo (l : Hist) (k : Nat) : List Int := (List.range k).filterMap fun j : Nat => itemH l (j : Int)
def putsH (l : Hist) : Int := (fromH l).1.n + manyH 6 (-1) l
def itemsH (l : Hist) : List Int := itemsTo l (putsH l).toNat

theorem itemsTo_succ (l : Hist) (k : Nat) : itemsTo l (k + 1) = itemsTo l k ++ (itemH l (k : Int)).toList := by
  simp only [itemsTo, List.range_succ, List.filterMap_append]
  cases h : itemH l (k : Int) <;> simp [h]
theorem itemsTo_le (l : Hist) (k : Nat) : (itemsTo l k).length ≤ k := by
  have := List.length_filterMap_le (fun j : Nat => itemH l (j : Int)) (List.range k)
  simpa [itemsTo] using this

set_option maxHeartbeats 2000000 in
theorem items_c {w : World} {B : Nat} {L : Lay} (h : RefRep w B L) (v : Nat) (hv : v < L.past.length) (h0 : 0 ≤ (fromH (L.hist v)).1.n) (h9 : putsH (L.hist v) ≤ 1000000000000) :
    Calls Try.prog 1000015 #[.pointer (some ⟨L.tb, 0, none⟩), I v] w fun e w' => ∃ x, e = .returned x ∧ w'.ownsRow w.heap.size 3 1 x (itemsH (L.hist v)).length ((itemsH (L.hist v)).map I) ∧ Below w.heap.size w w' := h.no.elim
/-- The cells of a process. -/
theorem RefRep.pcell {w : World} {B : Nat} {L : Lay} (h : RefRep w B L) {i : Nat} (hi : i < L.procs.length) (j : Nat) : w.cell? ⟨(L.procs[i]).1, j, none⟩ = (prCells (L.procs[i]).2)[j]? := h.no.elim
def shutP (v : Int) (p : Pr) : Bool := decide (p.node = v) && (decide (p.phase = 16) || decide (p.phase = 17) || decide (p.phase = 18))
def shutL (v : Int) : List (Nat × Pr) → Bool
  | [] => false
  | p :: r => shutP v p.2 || shutL v r

theorem shutL_append (v : Int) (a b : List (Nat × Pr)) : shutL v (a ++ b) = (shutL v a || shutL v b) := by
  induction a with
  | nil => simp [shutL]
  | cons x a ih => simp [shutL, ih, Bool.or_assoc]

theorem take_succ_get {α : Type} (l : List α) (k : Nat) (h : k < l.length) : l.take (k + 1) = l.take k ++ [l[k]] := by
  rw [List.take_succ_eq_append_getElem h]

set_option maxHeartbeats 2000000 in
theorem shut_c {w : World} {B : Nat} {L : Lay} (h : RefRep w B L) (v : Int) :
    Calls Try.prog 1000016 #[.pointer (some ⟨L.tb, 0, none⟩), I v] w fun e w' => e = .returned (.bool (shutL v L.procs)) ∧ w' = w := h.no.elim
/-- From node a up, as long as it is greater than v. -/
def climb : Nat → Nat → Nat → Nat
  | 0, a, _ => a
  | f + 1, a, v => if v < a then climb f (a / 2) v else a
def atP (p : Pr) : Nat := if p.phase = 0 ∨ p.phase = 15 ∨ p.phase = 16 ∨ p.phase = 17 ∨ p.phase = 18 then p.node.toNat / 2 else p.node.toNat
def holdsP (v : Nat) (p : Pr) : Bool := !decide (p.phase = 20) && decide (climb 6 (atP p) v = v)

theorem climb_stop (f a v : Nat) (h : ¬ v < a) : climb f a v = a := by cases f <;> simp [climb, h]

theorem ret_bool {a b : Bool} (h : a = b) : Ending.returned (.bool a) = .returned (.bool b) := by rw [h]
theorem ret_i {a b : Int} (h : a = b) : Ending.returned (I a) = .returned (I b) := by rw [h]
theorem int_of {a b : Int} (h : a = b) : Value.int .i64 a = .int .i64 b := by rw [h]
theorem beq_nat (a b : Nat) : ((a : Int) == (b : Int)) = decide (a = b) := by rw [Bool.eq_iff_iff]; simp; omega

def NodeOk (p : Pr) : Prop := p.node = ((p.node.toNat : Nat) : Int) ∧ p.node.toNat < 64

def insideL (v : Nat) : List (Nat × Pr) → Nat
  | [] => 0
  | p :: r => (if holdsP v p.2 then 1 else 0) + insideL v r

theorem insideL_append (v : Nat) (a b : List (Nat × Pr)) : insideL v (a ++ b) = insideL v a + insideL v b := by
  induction a with
  | nil => simp [insideL]
  | cons x a ih => simp [insideL, ih]; omega
theorem insideL_le (v : Nat) (a : List (Nat × Pr)) : insideL v a ≤ a.length := by
  induction a with
  | nil => simp [insideL]
  | cons x a ih => simp only [insideL, List.length_cons]; split <;> omega

set_option maxHeartbeats 2000000 in
theorem inside_c {w : World} {B : Nat} {L : Lay} (h : RefRep w B L) (hok : ∀ i, (hi : i < L.procs.length) → NodeOk (L.procs[i]).2) (v : Nat) :
    Calls Try.prog 1000017 #[.pointer (some ⟨L.tb, 0, none⟩), I v] w fun e w' => e = .returned (I (insideL v L.procs)) ∧ w' = w := h.no.elim
def waitP (v k : Int) (p : Pr) : Bool := decide (p.node = v) && decide (p.slot = k) && (decide (p.phase = 6) || decide (p.phase = 7))
def waitsL (v k : Int) : List (Nat × Pr) → Nat → Int
  | [], _ => -1
  | p :: r, i => if waitP v k p.2 then i else waitsL v k r (i + 1)

theorem drop_cons_get {α : Type} (l : List α) (k : Nat) (h : k < l.length) : l.drop k = l[k] :: l.drop (k + 1) := by
  rw [List.drop_eq_getElem_cons h]

set_option maxHeartbeats 2000000 in
theorem waits_c {w : World} {B : Nat} {L : Lay} (h : RefRep w B L) (v sl : Int) :
    Calls Try.prog 1000018 #[.pointer (some ⟨L.tb, 0, none⟩), I v, I sl] w fun e w' => e = .returned (I (waitsL v sl L.procs 0)) ∧ w' = w := h.no.elim
def liveL : List (Nat × Pr) → Nat
  | [] => 0
  | p :: r => (if p.2.phase = 20 then 0 else 1) + liveL r
/-- What is told of a node. -/
structure ND where
  num : Int
  depth : Int
  rank : Int
  inner : Bool
  shut : Bool
  inside : Int
  toggle : Int
  width : Int
  waiting : List Int
  puts : Int
  gets : Int
  items : List Int

/-- One node's cells; wv, iv: its two lists as values. -/
def ndCells (d : ND) (wv iv : Value) : List Value :=
  [I d.num, I d.depth, I d.rank, .bool d.inner, .bool d.shut, I d.inside, I d.toggle, I d.width, wv, I d.puts, I d.gets, iv]
theorem nb_facts {w : World} {nb : Nat} {arr : Array Value} {T : TypeId} (h : w.heap[nb]? = some (.cells arr T (0, 0))) :
    (∀ j, w.cell? ⟨nb, j, none⟩ = arr[j]?) ∧ (∀ j, w.frozen? ⟨nb, j, none⟩ = false) :=
  ⟨fun j => by simp [World.cell?, h], fun j => by simp [World.frozen?, h]⟩

theorem nb_set {w : World} {nb : Nat} {arr : Array Value} {T : TypeId} (h : w.heap[nb]? = some (.cells arr T (0, 0))) (j : Nat) (x : Value) :
    (w.setCell ⟨nb, j, none⟩ x).heap[nb]? = some (.cells (arr.setIfInBounds j x) T (0, 0)) := by
  simp [World.setCell, Array.getElem?_modify, h]

theorem nb_alloc (w : World) (arr : Array Value) (T : TypeId) : (w.alloc (.cells arr T)).heap[w.heap.size]? = some (.cells arr T (0, 0)) := by
  show (w.heap.push _)[w.heap.size]? = _
  simp

theorem ownsRow_mono {w : World} {b b' : Nat} {e : TypeId} {size : Nat} {v : Value} {n : Nat} {xs : List Value} (h : w.ownsRow b e size v n xs) (hb : b' ≤ b) : w.ownsRow b' e size v n xs := by
  obtain ⟨h1, h2⟩ := h
  refine ⟨h1, ?_⟩
  rcases h2 with h2 | ⟨g, cap, cur, hv, hg, r⟩
  · exact Or.inl h2
  · exact Or.inr ⟨g, cap, cur, hv, Nat.le_trans hb hg, r⟩

theorem ownsRow_block {w : World} {b : Nat} {e : TypeId} {size : Nat} {v : Value} {n : Nat} {xs : List Value} (h : w.ownsRow b e size v n xs) {g : Nat} (hg : v.ownBlock = some g) : ∃ cur, w.heap[g]? = some (.cells cur e (0, 0)) := by
  obtain ⟨_, h2⟩ := h
  rcases h2 with ⟨rfl, _⟩ | ⟨g', cap, cur, rfl, _, hh, _⟩
  · simp [Value.ownBlock] at hg
  · simp [Value.ownBlock] at hg
    subst hg
    exact ⟨cur, hh⟩

/-- A row keeps what it holds while a block of another type is written. -/
theorem ownsRow_setCell_type {w : World} {b : Nat} {e : TypeId} {size : Nat} {v : Value} {n : Nat} {xs : List Value} (h : w.ownsRow b e size v n xs) {nb : Nat} {arr : Array Value} {T : TypeId} {f : Nat × Nat}
    (hn : w.heap[nb]? = some (.cells arr T f)) (hne : T ≠ e) (j : Nat) (x : Value) : (w.setCell ⟨nb, j, none⟩ x).ownsRow b e size v n xs := by
  obtain ⟨h1, h2⟩ := h
  refine ⟨h1, ?_⟩
  rcases h2 with h2 | ⟨g, cap, cur, hv, hg, hh, r⟩
  · exact Or.inl h2
  · refine Or.inr ⟨g, cap, cur, hv, hg, ?_, r⟩
    rw [Below.heap_setCell _ _ _ _ (by
      intro e1
      simp at e1
      subst e1
      rw [hn] at hh
      simp at hh
      exact hne hh.2.1)]
    exact hh

theorem cells_new (w : World) (xs : List Value) (T : TypeId) : ∀ (j : Nat) (u : Value), xs[j]? = some u → (w.alloc (.cells xs.toArray T)).cell? ((⟨w.heap.size, 0, none⟩ : Addr).add j) = some u := by
  intro j u h
  have h2 := nb_alloc w xs.toArray T
  have h3 := (nb_facts h2).1 j
  have e : ((⟨w.heap.size, 0, none⟩ : Addr).add j) = ⟨w.heap.size, j, none⟩ := by
    unfold Addr.add
    split <;> simp_all
  rw [e, h3]
  simpa using h

theorem nd_one (d : ND) (a : Option Addr) (n c : Nat) (a' : Option Addr) (n' c' : Nat) : ∀ u ∈ ndCells d (.slice a n c) (.slice a' n' c'), u.oneCell' = true := by
  intro u hu
  simp only [ndCells, List.mem_cons, List.not_mem_nil, or_false] at hu
  rcases hu with h | h | h | h | h | h | h | h | h | h | h | h <;> subst h <;> rfl

def mayC (c : Conf) : Bool := decide ((c.kind = 0 ∨ c.kind = 1) ∧ 0 ≤ c.depth ∧ c.depth ≤ 4 ∧ 0 ≤ c.start ∧ c.start ≤ c.depth ∧ 1 ≤ c.slots ∧ c.slots ≤ 4 ∧ 1 ≤ c.width ∧ c.width ≤ 4 ∧ 0 ≤ c.spin ∧ c.spin ≤ 8 ∧ 0 ≤ c.drain ∧ c.drain ≤ 16 ∧ 1 ≤ c.procs ∧ c.procs ≤ 16)
def confV (c : Conf) : Value := .agg #[I c.kind, I c.depth, I c.start, I c.slots, I c.width, I c.spin, I c.drain, I c.procs]

theorem mayC_mk {c : Conf} {b : Bool} (h : b = true ↔ ((c.kind = 0 ∨ c.kind = 1) ∧ 0 ≤ c.depth ∧ c.depth ≤ 4 ∧ 0 ≤ c.start ∧ c.start ≤ c.depth ∧ 1 ≤ c.slots ∧ c.slots ≤ 4 ∧ 1 ≤ c.width ∧ c.width ≤ 4 ∧ 0 ≤ c.spin ∧ c.spin ≤ 8 ∧ 0 ≤ c.drain ∧ c.drain ≤ 16 ∧ 1 ≤ c.procs ∧ c.procs ≤ 16)) : b = mayC c := by
  rw [Bool.eq_iff_iff, h]; simp [mayC]

/-- From B on only blocks of the types T have turned; below B none. -/
structure ChgT (B : Nat) (T : List TypeId) (w w' : World) : Prop where
  os : w'.os = w.os
  tape : w'.tape = w.tape
  output : w'.output = w.output
  size : w.heap.size ≤ w'.heap.size
  block : ∀ k, k < w.heap.size → (k < B ∨ ∀ c e f, w.heap[k]? = some (.cells c e f) → e ∉ T) → w'.heap[k]? = w.heap[k]?

theorem ChgT.refl (B : Nat) (T : List TypeId) (w : World) : ChgT B T w w := ⟨rfl, rfl, rfl, Nat.le_refl _, fun _ _ _ => rfl⟩
theorem ChgT.trans {B : Nat} {T : List TypeId} {a b c : World} (h : ChgT B T a b) (k : ChgT B T b c) : ChgT B T a c :=
  ⟨k.os.trans h.os, k.tape.trans h.tape, k.output.trans h.output, Nat.le_trans h.size k.size, fun i hi hc => by
    have h1 := h.block i hi hc
    rw [← h1]
    refine k.block i (Nat.lt_of_lt_of_le hi h.size) ?_
    rcases hc with hc | hc
    · exact Or.inl hc
    · exact Or.inr fun c' e f hh => hc c' e f (by rw [← h1]; exact hh)⟩
theorem ChgT.of_below {B : Nat} {T : List TypeId} {a b : World} (h : Below a.heap.size a b) : ChgT B T a b :=
  ⟨h.os, h.tape, h.output, h.size, fun k hk _ => h.block k hk⟩
theorem ChgT.below {B : Nat} {T : List TypeId} {a b : World} (h : ChgT B T a b) (hB : B ≤ a.heap.size) : Below B a b :=
  ⟨h.os, h.tape, h.output, h.size, fun k hk => h.block k (by omega) (Or.inl hk)⟩
theorem ChgT.mono {B B' : Nat} {T T' : List TypeId} {a b : World} (h : ChgT B T a b) (hB : B' ≤ B) (hT : ∀ e, e ∈ T → e ∈ T') : ChgT B' T' a b :=
  ⟨h.os, h.tape, h.output, h.size, fun k hk hc => h.block k hk (by
    rcases hc with hc | hc
    · exact Or.inl (by omega)
    · exact Or.inr fun c e f hh he => hc c e f hh (hT e he))⟩
theorem ChgT.at {B : Nat} {T : List TypeId} {a b : World} (h : ChgT B T a b) {k : Nat} {c : Array Value} {e : TypeId} {f : Nat × Nat} (hk : a.heap[k]? = some (.cells c e f)) (he : e ∉ T) : b.heap[k]? = some (.cells c e f) := by
  rw [h.block k (Array.getElem?_eq_some_iff.1 hk).1 (Or.inr fun c' e' f' hh => by rw [hk] at hh; simp at hh; rw [← hh.2.1]; exact he)]
  exact hk
theorem ChgT.row {B : Nat} {T : List TypeId} {a b : World} (h : ChgT B T a b) {base : Nat} {e : TypeId} {size : Nat} {v : Value} {n : Nat} {xs : List Value} (hr : a.ownsRow base e size v n xs) (he : e ∉ T) : b.ownsRow base e size v n xs := by
  obtain ⟨h1, h2⟩ := hr
  refine ⟨h1, ?_⟩
  rcases h2 with h2 | ⟨g, cap, cur, hv, hg, hh, r⟩
  · exact Or.inl h2
  · exact Or.inr ⟨g, cap, cur, hv, hg, h.at hh he, r⟩

theorem ownsRow_set {w : World} {base : Nat} {e : TypeId} {g n cap : Nat} {xs : List Value} (h : w.ownsRow base e 1 (.slice (some ⟨g, 0, none⟩) n cap) n xs) (k : Nat) (x : Value) :
    (w.setCell ⟨g, k, none⟩ x).ownsRow base e 1 (.slice (some ⟨g, 0, none⟩) n cap) n (xs.set k x) := by
  obtain ⟨h1, h2⟩ := h
  refine ⟨by simpa using h1, ?_⟩
  rcases h2 with ⟨h2, _⟩ | ⟨g', cap', cur, hv, hg, hh, r1, r2, r3, r4⟩
  · simp at h2
  · simp only [Value.slice.injEq, Option.some.injEq, Addr.mk.injEq] at hv
    obtain ⟨⟨rfl, _, _⟩, _, rfl⟩ := hv
    refine Or.inr ⟨g, cap, cur.setIfInBounds k x, rfl, hg, ?_, r1, r2, by simpa using r3, ?_⟩
    · simp [World.setCell, Array.getElem?_modify, hh]
    · rw [← r4]; simp [List.take_set]

theorem lay_hist_set (L : Lay) (v : Nat) (x : Value) (l : Hist) (u : Nat) (hv : v < L.past.length) : ({ L with past := L.past.set v (x, l) } : Lay).hist u = if u = v then l else L.hist u := by
  by_cases h : u = v
  · subst h; simp [Lay.hist, hv, List.getD_eq_getElem?_getD]
  · simp [Lay.hist, h, List.getD_eq_getElem?_getD, Ne.symm h]

theorem happens_c {w : World} {B : Nat} {L : Lay} (h : RefRep w B L) (hB : B ≤ w.heap.size) (v : Nat) (hv : v < L.past.length) (hll : (L.hist v).length ≤ 1000000000000) (ev : Ev) (iv : Value) (hiv : w.ownsRow B 3 1 iv ev.items.length (ev.items.map I)) :
    Calls Try.prog 1000022 #[.pointer (some ⟨L.tb, 0, none⟩), I v, .agg #[I ev.what, I ev.n, I ev.v, iv]] w fun e w' => e = .returned (.tuple #[]) ∧ (∃ x, RefRep w' B { L with past := L.past.set v (x, (ev, iv) :: L.hist v) }) ∧ ChgT B [1000003, 1000004] w w' := h.no.elim
/-- What has happened at node u of a new tree. -/
def newHist (start : Int) (u : Nat) : Hist :=
  if ((Nat.log2 u : Nat) : Int) < start then [(⟨1, 0, 0, []⟩, .slice none 0 0)]
  else if ((Nat.log2 u : Nat) : Int) = start then [(⟨2, 0, 0, []⟩, .slice none 0 0)] else []

structure NewLay (c : Conf) (L : Lay) : Prop where
  conf : L.c = c
  procs : L.procs = []
  len : L.past.length = 2 ^ (c.depth.toNat + 1)
  hist : ∀ u, 1 ≤ u → u < L.past.length → L.hist u = newHist c.start u
  hist0 : L.hist 0 = []

end Go.Proofs.Ytjnmpejcegmkhaa

namespace Go.Proofs.Ytjnmpejcegmkhaa
open Go.RowKit

theorem within_c (v lo hi : Int) (w : World) : Calls Try.prog 67 #[I v, I lo, I hi] w fun e w' => e = .returned (.bool (decide (lo ≤ v ∧ v ≤ hi))) ∧ w' = w := by
  by_cases h1 : lo ≤ v
  · by_cases h2 : v ≤ hi
    · have HE : Hid (decide (lo ≤ v ∧ v ≤ hi) = true) := by show _ = _; simp [h1, h2]
      rw [HE.out]
      go_enter Try.func67, Try.ntmps67
      go_wp2
      go_ret
      exact ⟨rfl, rfl⟩
    · have HE : Hid (decide (lo ≤ v ∧ v ≤ hi) = false) := by show _ = _; simp [h2]
      have hd : decide (v ≤ hi) = false := by simp; omega
      rw [HE.out]
      go_enter Try.func67, Try.ntmps67
      go_wp2
      go_ret
      exact ⟨rfl, rfl⟩
  · have HE : Hid (decide (lo ≤ v ∧ v ≤ hi) = false) := by show _ = _; simp [h1]
    have hd : decide (lo ≤ v) = false := by simp; omega
    rw [HE.out]
    go_enter Try.func67, Try.ntmps67
    go_wp2
    go_ret
    exact ⟨rfl, rfl⟩

set_option maxHeartbeats 4000000 in
theorem good_c (c : Conf) (w : World) : Calls Try.prog 37 #[confV c] w fun e w' => e = .returned (.bool (mayC c)) ∧ Below w.heap.size w w' := by
  have HW : Hid (∀ v lo hi W, Calls Try.prog 67 #[I v, I lo, I hi] W fun e w' => e = .returned (.bool (decide (lo ≤ v ∧ v ≤ hi))) ∧ w' = W) := fun v lo hi W => within_c v lo hi W
  have HM : Hid (∀ b : Bool, (b = true ↔ ((c.kind = 0 ∨ c.kind = 1) ∧ 0 ≤ c.depth ∧ c.depth ≤ 4 ∧ 0 ≤ c.start ∧ c.start ≤ c.depth ∧ 1 ≤ c.slots ∧ c.slots ≤ 4 ∧ 1 ≤ c.width ∧ c.width ≤ 4 ∧ 0 ≤ c.spin ∧ c.spin ≤ 8 ∧ 0 ≤ c.drain ∧ c.drain ≤ 16 ∧ 1 ≤ c.procs ∧ c.procs ≤ 16)) → b = mayC c) := fun b h => mayC_mk h
  unfold confV
  generalize mayC c = M at *
  obtain ⟨kind, depth, start, slots, width, spin, drain, procs⟩ := c
  simp only at *
  go_enter Try.func37, Try.ntmps37
  go_wp2_with fail
  refine Calls.mono (HW.out _ _ _ _) ?_
  rintro e w0 ⟨rfl, rfl⟩
  by_cases h0 : 0 ≤ kind ∧ kind ≤ 1
  · rw [decide_eq_true h0]
    go_wp2_with fail
    refine Calls.mono (HW.out _ _ _ _) ?_
    rintro e w1 ⟨rfl, rfl⟩
    by_cases h1 : 0 ≤ depth ∧ depth ≤ 4
    · rw [decide_eq_true h1]
      go_wp2_with fail
      refine Calls.mono (HW.out _ _ _ _) ?_
      rintro e w2 ⟨rfl, rfl⟩
      by_cases h2 : 0 ≤ start ∧ start ≤ depth
      · rw [decide_eq_true h2]
        go_wp2_with fail
        refine Calls.mono (HW.out _ _ _ _) ?_
        rintro e w3 ⟨rfl, rfl⟩
        by_cases h3 : 1 ≤ slots ∧ slots ≤ 4
        · rw [decide_eq_true h3]
          go_wp2_with fail
          refine Calls.mono (HW.out _ _ _ _) ?_
          rintro e w4 ⟨rfl, rfl⟩
          by_cases h4 : 1 ≤ width ∧ width ≤ 4
          · rw [decide_eq_true h4]
            go_wp2_with fail
            refine Calls.mono (HW.out _ _ _ _) ?_
            rintro e w5 ⟨rfl, rfl⟩
            by_cases h5 : 0 ≤ spin ∧ spin ≤ 8
            · rw [decide_eq_true h5]
              go_wp2_with fail
              refine Calls.mono (HW.out _ _ _ _) ?_
              rintro e w6 ⟨rfl, rfl⟩
              by_cases h6 : 0 ≤ drain ∧ drain ≤ 16
              · rw [decide_eq_true h6]
                go_wp2_with fail
                refine Calls.mono (HW.out _ _ _ _) ?_
                rintro e w7 ⟨rfl, rfl⟩
                by_cases h7 : 1 ≤ procs ∧ procs ≤ 16
                · rw [decide_eq_true h7]
                  go_wp2
                  go_ret
                  exact ⟨ret_bool (HM.out _ (by simp; omega)), (Below.refl _ _).alloc (Nat.le_refl _) _⟩
                · rw [decide_eq_false h7]
                  go_wp2
                  go_ret
                  exact ⟨ret_bool (HM.out _ (by simp; omega)), (Below.refl _ _).alloc (Nat.le_refl _) _⟩
              · rw [decide_eq_false h6]
                go_wp2
                go_ret
                exact ⟨ret_bool (HM.out _ (by simp; omega)), (Below.refl _ _).alloc (Nat.le_refl _) _⟩
            · rw [decide_eq_false h5]
              go_wp2
              go_ret
              exact ⟨ret_bool (HM.out _ (by simp; omega)), (Below.refl _ _).alloc (Nat.le_refl _) _⟩
          · rw [decide_eq_false h4]
            go_wp2
            go_ret
            exact ⟨ret_bool (HM.out _ (by simp; omega)), (Below.refl _ _).alloc (Nat.le_refl _) _⟩
        · rw [decide_eq_false h3]
          go_wp2
          go_ret
          exact ⟨ret_bool (HM.out _ (by simp; omega)), (Below.refl _ _).alloc (Nat.le_refl _) _⟩
      · rw [decide_eq_false h2]
        go_wp2
        go_ret
        exact ⟨ret_bool (HM.out _ (by simp; omega)), (Below.refl _ _).alloc (Nat.le_refl _) _⟩
    · rw [decide_eq_false h1]
      go_wp2
      go_ret
      exact ⟨ret_bool (HM.out _ (by simp; omega)), (Below.refl _ _).alloc (Nat.le_refl _) _⟩
  · rw [decide_eq_false h0]
    go_wp2
    go_ret
    exact ⟨ret_bool (HM.out _ (by simp; omega)), (Below.refl _ _).alloc (Nat.le_refl _) _⟩

theorem changer_c (k : Int) (w : World) : Calls Try.prog 42 #[I k] w fun e w' => e = .returned (.bool (decide (k = 3) || decide (k = 4))) ∧ w' = w := by
  by_cases h3 : k = 3
  · have b1 : (k == 3) = true := by simp [h3]
    have HE : Hid ((decide (k = 3) || decide (k = 4)) = true) := by show _ = _; simp [h3]
    rw [HE.out]
    clear h3
    go_enter Try.func42, Try.ntmps42
    go_wp2
    go_ret
    exact ⟨rfl, rfl⟩
  · have b1 : (k == 3) = false := by simp [h3]
    have HE : Hid ((decide (k = 3) || decide (k = 4)) = (k == 4)) := by show _ = _; simp [h3]; rfl
    rw [HE.out]
    clear h3
    go_enter Try.func42, Try.ntmps42
    go_wp2
    go_ret
    exact ⟨rfl, rfl⟩

end Go.Proofs.Ytjnmpejcegmkhaa

namespace Go.Proofs.Ytjnmpejcegmkhaa
open Go.RowKit
set_option linter.unusedVariables false

theorem Below.drewN' {B : Nat} {a w : World} (h : Below B a w) (n : Nat) : Below B a (w.drewN n) := by
  induction n with
  | zero => exact h
  | succ n ih => exact ih.drew

theorem row_cells {w : World} {base : Nat} {v : Value} {n : Nat} {xs : List Int} (h : w.ownsRow base 3 1 v n (xs.map I)) :
    ∃ ao cap, v = .slice ao n cap ∧ n ≤ cap ∧ n ≤ maxLen ∧ xs.length = n ∧ ∀ j, (hj : j < xs.length) → ∃ g, ao = some ⟨g, 0, none⟩ ∧ g < w.heap.size ∧ w.cell? ⟨g, j, none⟩ = some (I xs[j]) := by
  obtain ⟨ao, cap, h1, h2, h3, h4, h5⟩ := ownsRow_cells h
  refine ⟨ao, cap, h1, h2, h3, by have := h.1; simpa using this, fun j hj => ?_⟩
  obtain ⟨g, e, _, c⟩ := h5 j (I xs[j]) (by simp [hj])
  exact ⟨g, e, cell_lt c, c⟩

structure Op3 where
  kind : Int
  val : Int
  node : Int
def opV (o : Op3) : Value := .agg #[I o.kind, I o.val, I o.node]

def isChange (o : Op3) : Bool := decide (o.kind = 3) || decide (o.kind = 4)

/-- Has a tree of the configuration c the operation o? -/
def okOp (c : Conf) (o : Op3) : Prop :=
  ((o.kind = 3 ∨ o.kind = 4) ∧ 1 ≤ o.node ∧ o.node < ((2 ^ c.depth.toNat : Nat) : Int)) ∨ (o.kind = 0 ∧ c.kind = 0) ∨ ((o.kind = 1 ∨ o.kind = 2) ∧ c.kind = 1)

def newPr (o : Op3) : Pr := ⟨o.kind, o.val, o.node, if isChange o ∧ o.node = 1 then 15 else 0, 1, 0, 0, 0, 0, 0, -1, 0, 0⟩

end Go.Proofs.Ytjnmpejcegmkhaa

namespace Go.Proofs.Ytjnmpejcegmkhaa
open Go.RowKit

set_option maxHeartbeats 4000000 in
theorem isConfig_c (c : Conf) (w : World) : Calls Try.prog 65 #[confV c] w fun e w' => e = .returned (.bool (mayC c)) ∧ Below w.heap.size w w' := by
  have HM : Hid (∀ b : Bool, (b = true ↔ ((c.kind = 0 ∨ c.kind = 1) ∧ 0 ≤ c.depth ∧ c.depth ≤ 4 ∧ 0 ≤ c.start ∧ c.start ≤ c.depth ∧ 1 ≤ c.slots ∧ c.slots ≤ 4 ∧ 1 ≤ c.width ∧ c.width ≤ 4 ∧ 0 ≤ c.spin ∧ c.spin ≤ 8 ∧ 0 ≤ c.drain ∧ c.drain ≤ 16 ∧ 1 ≤ c.procs ∧ c.procs ≤ 16)) → b = mayC c) := fun b h => mayC_mk h
  unfold confV
  generalize mayC c = M at *
  obtain ⟨kind, depth, start, slots, width, spin, drain, procs⟩ := c
  simp only at *
  by_cases hk : kind = 0 ∨ kind = 1
  · have hk2 : (kind != 0) = false ∨ ((kind != 0) = true ∧ (kind != 1) = false) := by
      rcases hk with rfl | rfl <;> simp
    have HK : Hid (kind = 0 ∨ kind = 1) := hk
    clear hk
    rcases hk2 with k0 | ⟨k0, k1⟩
    all_goals
      go_enter Try.func65, Try.ntmps65
      go_wp2
    all_goals
      go_ret
      exact ⟨ret_bool (HM.out _ (by have := HK.out; simp; omega)), (Below.refl _ _).alloc (Nat.le_refl _) _⟩
  · have k0 : (kind != 0) = true := by simp; omega
    have k1 : (kind != 1) = true := by simp; omega
    have HK : Hid (¬ (kind = 0 ∨ kind = 1)) := hk
    clear hk
    go_enter Try.func65, Try.ntmps65
    go_wp2
    go_ret
    exact ⟨ret_bool (HM.out _ (by have := HK.out; simp; omega)), (Below.refl _ _).alloc (Nat.le_refl _) _⟩

set_option maxHeartbeats 1000000 in
theorem firstOfDepth_c (d : Nat) (hd : d ≤ 5) (w : World) : Calls Try.prog 97 #[I d] w fun e w' => e = .returned (I ((2 ^ d : Nat) : Int)) ∧ w' = w := by
  obtain ⟨P, hP⟩ : ∃ P : Nat → Nat, P = fun k => 2 ^ k := ⟨_, rfl⟩
  have hP0 : P 0 = 1 := by rw [hP]
  have HPS : Hid (∀ k, P (k + 1) = 2 * P k) := by intro k; rw [hP]; simp [Nat.pow_succ, Nat.mul_comm]
  have HP0 : Hid (P 0 = 1) := hP0
  have HPb : Hid (∀ k, k ≤ 5 → P k ≤ 32) := by intro k hk; rw [hP]; exact Nat.le_trans (Nat.pow_le_pow_right (by omega) hk) (by decide)
  have HE : Hid (2 ^ d = P d) := by show _ = _; rw [hP]
  rw [HE.out]
  clear hP0 hP HE
  go_enter Try.func97, Try.ntmps97
  go_wp2
  go_loop [3, 4] (fun x i => ∃ k : Nat, k ≤ d ∧ i = .int .i64 k ∧ x = .int .i64 (P k)) (fun _ i => d - (intOf i).toNat)
  case atStart => exact ⟨0, Nat.zero_le _, rfl, int_of (by rw [HP0.out]; rfl)⟩
  case round =>
    obtain ⟨k, hk, rfl, rfl⟩ := hrel
    by_cases hlt : k < d
    · have hb := HPb.out k (by omega)
      go_wp2
      go_round
      case rel => exact ⟨k + 1, by omega, by go_num, int_of (by rw [HPS.out]; omega)⟩
      case measure => simp [intOf]; omega
    · have e : k = d := by omega
      subst e
      go_wp2
      go_ret
      exact ⟨rfl, rfl⟩

def placeTo : Nat → Nat → Nat → Nat → Nat × Nat
  | 0, _, d, r => (d, r)
  | f + 1, v, d, r => if 1 < v then placeTo f (v / 2) (d + 1) (2 * r + v % 2) else (d, r)

theorem placeTo_eq : ∀ v, v < 64 → placeTo 6 v 0 0 = (Nat.log2 v, rank v) := by decide +kernel

theorem placeTo_stop (f v d r : Nat) (h : ¬ 1 < v) : placeTo f v d r = (d, r) := by cases f <;> simp [placeTo, h]

set_option maxHeartbeats 1000000 in
theorem place_c (v : Nat) (hv : v < 64) (w : World) : Calls Try.prog 68 #[I v] w fun e w' => e = .returned (.tuple #[I (Nat.log2 v), I (rank v)]) ∧ w' = w := by
  have he := placeTo_eq v hv
  have HE : Hid (placeTo 6 v 0 0 = (Nat.log2 v, rank v)) := he
  clear he
  generalize Nat.log2 v = D at *
  generalize rank v = R at *
  go_enter Try.func68, Try.ntmps68
  go_wp2
  go_loop [0, 4, 5] (fun x dd rr => ∃ f vv d r : Nat, vv < 2 ^ f ∧ vv < 64 ∧ d + f = 6 ∧ r < 2 ^ d ∧ Hid (placeTo f vv d r = (D, R)) ∧ x = .int .i64 vv ∧ dd = .int .i64 d ∧ rr = .int .i64 r) (fun x _ _ => (intOf x).toNat)
  case atStart => exact ⟨6, v, 0, 0, by omega, hv, rfl, by decide, HE, rfl, rfl, rfl⟩
  case round =>
    obtain ⟨f, vv, d, r, h1, h2, h3, h4, h5, rfl, rfl, rfl⟩ := hrel
    have hr64 : r < 64 := Nat.lt_of_lt_of_le h4 (Nat.le_trans (Nat.pow_le_pow_right (by omega) (by omega : d ≤ 6)) (by decide))
    by_cases hgt : 1 < vv
    · cases f with
      | zero => exfalso; simp at h1; omega
      | succ f =>
        have H5 : Hid (placeTo f (vv / 2) (d + 1) (2 * r + vv % 2) = (D, R)) := by have := h5.out; simp only [placeTo, hgt, if_true] at this; exact this
        have h1' : vv / 2 < 2 ^ f := by rw [Nat.pow_succ] at h1; omega
        have h4' : 2 * r + vv % 2 < 2 ^ (d + 1) := by rw [Nat.pow_succ]; omega
        replace h1' : Hid _ := h1'
        replace h4' : Hid _ := h4'
        clear h5 h1 h4
        go_wp2
        go_round
        case rel => exact ⟨f, vv / 2, d + 1, 2 * r + vv % 2, h1', by omega, by omega, h4', H5, by go_num, by go_num, int_of (by omega)⟩
        case measure => simp [intOf]; omega
    · have H5 : Hid ((d, r) = (D, R)) := by have := h5.out; rw [placeTo_stop _ _ _ _ hgt] at this; exact this
      clear h5 h1 h4
      have e1 : d = D := by have := H5.out; simp at this; exact this.1
      have e2 : r = R := by have := H5.out; simp at this; exact this.2
      subst e1 e2
      go_wp2
      go_ret2
      exact ⟨rfl, rfl⟩

theorem Try.info3' : (Try.prog.info? 3).map (fun i => (i.zero, i.size, i.bytes)) = some (some (.int .i64 0), 1, 8) := by kernel_rfl

/-- The values of the items that lie. -/
def pvals (its : List (Int × Int)) : List Int := (its.filter fun y => y.1 == 1).map fun y => y.2
theorem pvals_snoc (its : List (Int × Int)) (y : Int × Int) : pvals (its ++ [y]) = pvals its ++ (if y.1 = 1 then [y.2] else []) := by
  simp only [pvals, List.filter_append, List.map_append]
  congr 1
  by_cases h : y.1 = 1 <;> simp [h]
theorem pvals_le (its : List (Int × Int)) : (pvals its).length ≤ its.length := by
  simp only [pvals, List.length_map]
  exact List.length_filter_le _ _

set_option maxHeartbeats 2000000 in
theorem values_c (w : World) (B tb off : Nat) (iv : Value) (its : List (Int × Int)) (h : w.cell? ⟨tb, off + 20, none⟩ = some iv) (hr : w.ownsRow B 135 2 iv its.length (its.flatMap fun y => [I y.1, I y.2])) (hl : its.length ≤ 1000000000000) :
    Calls Try.prog 70 #[.pointer (some ⟨tb, off, none⟩)] w fun e w' => ∃ x, e = .returned x ∧ w'.ownsRow w.heap.size 3 1 x (pvals its).length ((pvals its).map I) ∧ Below w.heap.size w w' := by
  have l0 := cell_lt h
  obtain ⟨ao, cap, rfl, c1, c2, c3, c4⟩ := ownsRow_cells hr
  have hat : ∀ k, (hk : k < its.length) → ∃ g, ao = some ⟨g, 0, none⟩ ∧ g < w.heap.size ∧ w.cell? ⟨g, k * 2, none⟩ = some (I (its[k]).1) ∧ w.cell? ⟨g, k * 2 + 1, none⟩ = some (I (its[k]).2) := by
    intro k hk
    have e : (its.flatMap fun y => [I y.1, I y.2])[k * 2]? = some (I (its[k]).1) ∧ (its.flatMap fun y => [I y.1, I y.2])[k * 2 + 1]? = some (I (its[k]).2) := by
      clear hr c1 c2 c4 hl h
      induction its generalizing k with
      | nil => simp at hk
      | cons x its ih =>
        cases k with
        | zero => simp
        | succ k =>
          simp only [List.flatMap_cons, List.getElem_cons_succ]
          rw [List.getElem?_append_right (by simp; omega), List.getElem?_append_right (by simp; omega)]
          have := ih k (by simpa using hk)
          simpa [show (k + 1) * 2 - 2 = k * 2 from by omega, show (k + 1) * 2 + 1 - 2 = k * 2 + 1 from by omega] using this
    obtain ⟨g, e1, _, c⟩ := c4 _ _ e.1
    obtain ⟨g', e1', _, c'⟩ := c4 _ _ e.2
    rw [e1] at e1'
    simp at e1'
    subst e1'
    exact ⟨g, e1, cell_lt c, c, c'⟩
  clear hr c4
  obtain ⟨i0, hi, hz0, hz1, hz2⟩ := info_parts Try.info3'
  unfold maxLen at c2 c3
  go_enter Try.func70, Try.ntmps70
  go_wp2_with fail
  go_loopw [3, 4] (fun x i wr => ∃ k : Nat, k ≤ its.length ∧ i = .int .i64 k ∧ wr.ownsRow w.heap.size 3 1 x (pvals (its.take k)).length ((pvals (its.take k)).map I) ∧ Below w.heap.size w wr) (fun _ i _ => its.length - (intOf i).toNat)
  case atStart => exact ⟨0, Nat.zero_le _, rfl, World.ownsRow_nil _ _ _ _, Below.refl _ _⟩
  case round =>
    obtain ⟨k, hk, rfl, hown, hbr⟩ := hrel
    have d1 := (hbr.cell (p := ⟨tb, off + 20, none⟩) l0).trans h
    by_cases hlt : k < its.length
    · obtain ⟨g, rfl, l1, q0, q⟩ := hat k hlt
      have d0 := (hbr.cell (p := ⟨g, k * 2, none⟩) l1).trans q0
      have d2 := (hbr.cell (p := ⟨g, k * 2 + 1, none⟩) l1).trans q
      have hsz := hbr.size
      have HW : Hid (pvals (its.take (k + 1)) = pvals (its.take k) ++ (if (its[k]).1 = 1 then [(its[k]).2] else [])) := by
        show _ = _
        rw [take_succ_get _ _ hlt, pvals_snoc]
      have hle : (pvals (its.take k)).length ≤ k := by
        have := pvals_le (its.take k)
        rw [List.length_take] at this
        omega
      clear hat q q0 h
      generalize (its[k]).2 = y at *
      generalize (its[k]).1 = st at *
      by_cases hst : st = 1
      · have b1 : (st == 1) = true := by simp [hst]
        have HW2 : Hid (pvals (its.take (k + 1)) = pvals (its.take k) ++ [y]) := by have := HW.out; rw [if_pos hst] at this; exact this
        clear hst HW
        generalize hpv : pvals (its.take k) = pv at *
        go_wp2_with (at_builtin; go_must (refine wpList_append_own _ rfl _ _ 27 rfl w.heap.size 3 i0 (.int .i64 0) 1 8 Try.underlying27 hi hz0 hz1 hz2 rfl (by decide) _ _ _ rfl (hown.alloc _) ⟨wr.heap.size, 0, none⟩ 1 1 [.int .i64 y] rfl rfl ?c1 ?c2 ?c3 ?c4 ?c5 ?_))
        case c1 => exact cell_one_new _ _ _
        case c2 => intro u hu; simp at hu; subst hu; rfl
        case c3 => unfold maxLen; omega
        case c4 => omega
        case c5 => simp; omega
        · intro x' w3 hown' hgrow _
          have hb4 : Below w.heap.size w w3 := (hbr.alloc hsz _).grown hgrow (by simp; omega) (fun j hj => (hown.lt j hj).1)
          clear hgrow
          go_wp2
          go_roundw
          case rel => exact ⟨k + 1, by omega, by go_num, by rw [HW2.out]; simpa using hown', hb4⟩
          case measure => simp [intOf]; omega
      · have b1 : (st == 1) = false := by simp [hst]
        have HW2 : Hid (pvals (its.take (k + 1)) = pvals (its.take k)) := by have := HW.out; rw [if_neg hst, List.append_nil] at this; exact this
        clear hst HW
        go_wp2
        go_roundw
        case rel => exact ⟨k + 1, by omega, by go_num, by rw [HW2.out]; exact hown, hbr⟩
        case measure => simp [intOf]; omega
    · have e : k = its.length := by omega
      subst e
      go_wp2
      go_ret
      exact ⟨_, rfl, by rw [List.take_length] at hown; exact hown, hbr⟩

/-- A slot: its state, who waits there or was met there, who met it. -/
structure SL where
  st : Int
  wh : Int
  by' : Int

structure PN where
  there : Bool
  inner : Bool
  shut : Bool
  inside : Int
  toggle : Int
  width : Int
  s0 : SL
  s1 : SL
  s2 : SL
  s3 : SL
  puts : Int
  gets : Int
  iv : Value
  items : List (Int × Int)

def PN.slot (n : PN) : Nat → SL
  | 0 => n.s0
  | 1 => n.s1
  | 2 => n.s2
  | _ => n.s3
def pnCells (n : PN) : List Value := [.bool n.there, .bool n.inner, .bool n.shut, I n.inside, I n.toggle, I n.width, I n.s0.st, I n.s0.wh, I n.s0.by', I n.s1.st, I n.s1.wh, I n.s1.by', I n.s2.st, I n.s2.wh, I n.s2.by', I n.s3.st, I n.s3.wh, I n.s3.by', I n.puts, I n.gets, n.iv]

def zeroSL : SL := ⟨0, 0, 0⟩
def zeroPN : PN := ⟨false, false, false, 0, 0, 0, zeroSL, zeroSL, zeroSL, zeroSL, 0, 0, .slice none 0 0, []⟩
def innerPN : PN := ⟨true, true, false, 0, 0, 1, zeroSL, zeroSL, zeroSL, zeroSL, 0, 0, .slice none 0 0, []⟩
def leafPN : PN := ⟨true, false, false, 0, 0, 0, zeroSL, zeroSL, zeroSL, zeroSL, 0, 0, .slice none 0 0, []⟩

structure PP where
  kind : Int
  oval : Int
  onode : Int
  phase : Int
  node : Int
  val : Int
  width : Int
  slot : Int
  mind : Int
  pat : Int
  ticket : Int
def ppCells (p : PP) : List Value := [I p.kind, I p.oval, I p.onode, I p.phase, I p.node, I p.val, I p.width, I p.slot, I p.mind, I p.pat, I p.ticket]

def zeroPP : PP := ⟨0, 0, 0, 0, 0, 0, 0, 0, 0, 0, 0⟩

structure PLay where
  tb : Nat
  c : Conf
  nodes : List PN
  pv : Value
  procs : List PP

def pConf (c : Conf) : List Value := [I c.kind, I c.depth, I c.start, I c.slots, I c.width, I c.spin, I c.drain, I c.procs]
def pTree (L : PLay) : List Value := pConf L.c ++ (L.nodes.flatMap pnCells ++ [L.pv])

structure PRep (w : World) (B : Nat) (L : PLay) : Prop where
  tree : w.heap[L.tb]? = some (.cells (pTree L).toArray 78 (0, 0))
  treeB : B ≤ L.tb
  len : L.nodes.length = 32
  prow : w.ownsRow B 119 11 L.pv L.procs.length (L.procs.flatMap ppCells)
  items : ∀ v, (hv : v < L.nodes.length) → w.ownsRow B 135 2 (L.nodes[v]).iv (L.nodes[v]).items.length ((L.nodes[v]).items.flatMap fun y => [I y.1, I y.2])
  ind : ∀ u v, (hu : u < L.nodes.length) → (hv : v < L.nodes.length) → ∀ g, (L.nodes[u]).iv.ownBlock = some g → (L.nodes[v]).iv.ownBlock = some g → u = v

theorem PRep.size {w : World} {B : Nat} {L : PLay} (h : PRep w B L) : L.tb < w.heap.size := (Array.getElem?_eq_some_iff.1 h.tree).1

theorem PRep.below {w w' : World} {B : Nat} {L : PLay} (h : PRep w B L) (hb : Below w.heap.size w w') : PRep w' B L where
  tree := by rw [hb.block _ h.size]; exact h.tree
  treeB := h.treeB
  len := h.len
  prow := ownsRow_below h.prow hb (Nat.le_refl _)
  items := fun v hv => ownsRow_below (h.items v hv) hb (Nat.le_refl _)
  ind := h.ind

theorem flat_at {α : Type} (f : α → List Value) (s : Nat) (hs : ∀ x, (f x).length = s) (l : List α) (k : Nat) (hk : k < l.length) (j : Nat) (hj : j < s) : (l.flatMap f)[k * s + j]? = (f l[k])[j]? := by
  induction l generalizing k with
  | nil => simp at hk
  | cons x l ih =>
    have hx := hs x
    cases k with
    | zero =>
      simp only [List.flatMap_cons, Nat.zero_mul, Nat.zero_add, List.getElem_cons_zero]
      rw [List.getElem?_append_left (by omega)]
    | succ k =>
      simp only [List.flatMap_cons, List.getElem_cons_succ]
      rw [List.getElem?_append_right (by rw [hx, Nat.succ_mul]; omega), hx, show (k + 1) * s + j - s = k * s + j from by rw [Nat.succ_mul]; omega]
      exact ih k (by simpa using hk)

theorem flat_length {α : Type} (f : α → List Value) (s : Nat) (hs : ∀ x, (f x).length = s) (l : List α) : (l.flatMap f).length = l.length * s := by
  induction l with
  | nil => simp
  | cons x l ih => simp only [List.flatMap_cons, List.length_append, List.length_cons, ih, hs, Nat.succ_mul]; omega

theorem pn_len (n : PN) : (pnCells n).length = 21 := rfl

/-- The cells of node v. -/
theorem PRep.ncell {w : World} {B : Nat} {L : PLay} (h : PRep w B L) (v : Nat) (hv : v < L.nodes.length) (j : Nat) (hj : j < 21) : w.cell? ⟨L.tb, 8 + v * 21 + j, none⟩ = (pnCells L.nodes[v])[j]? := by
  rw [block_cell h.tree]
  simp only [pTree, List.getElem?_toArray]
  rw [List.getElem?_append_right (by simp [pConf]; omega), List.getElem?_append_left (by rw [flat_length pnCells 21 pn_len]; simp [pConf]; omega)]
  rw [show 8 + v * 21 + j - (pConf L.c).length = v * 21 + j from by simp [pConf]; omega]
  exact flat_at pnCells 21 pn_len L.nodes v hv j hj

theorem PRep.ccell {w : World} {B : Nat} {L : PLay} (h : PRep w B L) (j : Nat) (hj : j < 8) : w.cell? ⟨L.tb, j, none⟩ = (pConf L.c)[j]? := by
  rw [block_cell h.tree]
  simp only [pTree, List.getElem?_toArray]
  rw [List.getElem?_append_left (by simp [pConf]; omega)]

theorem PRep.pcell {w : World} {B : Nat} {L : PLay} (h : PRep w B L) : w.cell? ⟨L.tb, 680, none⟩ = some L.pv := by
  rw [block_cell h.tree]
  simp only [pTree, List.getElem?_toArray]
  have h1 : (pConf L.c).length = 8 := rfl
  have h2 := flat_length pnCells 21 pn_len L.nodes
  rw [h.len] at h2
  rw [List.getElem?_append_right (by omega), List.getElem?_append_right (by omega), h1, h2]
  rfl

theorem nb_alloc2 (w : World) (o : Obj) (arr : Array Value) (T : TypeId) : ((w.alloc o).alloc (.cells arr T)).drew.heap[w.heap.size + 1]? = some (.cells arr T (0, 0)) := by
  have := nb_alloc (w.alloc o) arr T
  have e : (w.alloc o).heap.size = w.heap.size + 1 := by simp
  rw [e] at this
  exact this

def pprocV (L : PLay) (n : Int) : Value :=
  if 0 ≤ n ∧ n < L.procs.length then
    .tuple #[.agg #[I (L.procs.getD n.toNat zeroPP).phase, I (L.procs.getD n.toNat zeroPP).node, I (L.procs.getD n.toNat zeroPP).val], I 0]
  else .tuple #[.agg #[I 0, I 0, I 0], I 5]

theorem pp_len (p : PP) : (ppCells p).length = 11 := rfl

set_option maxHeartbeats 2000000 in
theorem pproc_c {w : World} {B : Nat} {L : PLay} (h : PRep w B L) (n : Int) :
    Calls Try.prog 41 #[.pointer (some ⟨L.tb, 0, none⟩), I n] w fun e w' => e = .returned (pprocV L n) ∧ Below w.heap.size w w' := by
  have h1 := h.pcell
  obtain ⟨ao, cap, e1, c1, c2, c3, h2⟩ := ownsRow_cells h.prow
  rw [e1] at h1
  clear e1
  have l0 := h.size
  have HV : Hid (pprocV L n = if 0 ≤ n ∧ n < L.procs.length then
    .tuple #[.agg #[I (L.procs.getD n.toNat zeroPP).phase, I (L.procs.getD n.toNat zeroPP).node, I (L.procs.getD n.toNat zeroPP).val], I 0]
  else .tuple #[.agg #[I 0, I 0, I 0], I 5]) := rfl
  generalize pprocV L n = V at *
  have hp : ∀ i, (hi : i < L.procs.length) → ∃ g, ao = some ⟨g, 0, none⟩ ∧ g < w.heap.size ∧ ∀ j, j < 11 → w.cell? ⟨g, i * 11 + j, none⟩ = (ppCells L.procs[i])[j]? := by
    intro i hi
    have key : ∀ j, j < 11 → ∃ g, ao = some ⟨g, 0, none⟩ ∧ g < w.heap.size ∧ w.cell? ⟨g, i * 11 + j, none⟩ = (ppCells L.procs[i])[j]? := by
      intro j hj
      have hlt : j < (ppCells L.procs[i]).length := hj
      obtain ⟨g, e, _, c⟩ := h2 (i * 11 + j) ((ppCells L.procs[i])[j]) (by rw [flat_at ppCells 11 pp_len L.procs i hi j hj, List.getElem?_eq_getElem hlt])
      exact ⟨g, e, cell_lt c, by rw [c, List.getElem?_eq_getElem hlt]⟩
    obtain ⟨g, rfl, hg, _⟩ := key 0 (by omega)
    refine ⟨g, rfl, hg, fun j hj => ?_⟩
    obtain ⟨g', e, _, c⟩ := key j hj
    simp at e; subst e; exact c
  clear h2
  generalize hps : L.procs = ps at *
  generalize L.tb = tb at *
  unfold maxLen at c2 c3
  clear h
  by_cases hn : 0 ≤ n ∧ n < ps.length
  · obtain ⟨i, rfl⟩ := Int.eq_ofNat_of_zero_le hn.1
    have hi : i < ps.length := by omega
    have hV := HV.out
    rw [if_pos hn] at hV
    simp only [Int.toNat_natCast, List.getD_eq_getElem?_getD, List.getElem?_eq_getElem hi, Option.getD_some] at hV
    subst hV
    obtain ⟨g, rfl, l1, F⟩ := hp i hi
    have p0 := F 0 (by omega); have p1 := F 1 (by omega); have p2 := F 2 (by omega); have p3 := F 3 (by omega); have p4 := F 4 (by omega); have p5 := F 5 (by omega)
    have p6 := F 6 (by omega); have p7 := F 7 (by omega); have p8 := F 8 (by omega); have p9 := F 9 (by omega); have p10 := F 10 (by omega)
    clear HV hn hp F
    generalize ps[i] = p at *
    simp only [ppCells, Nat.add_zero, List.getElem?_cons_succ, List.getElem?_cons_zero] at p0 p1 p2 p3 p4 p5 p6 p7 p8 p9 p10
    go_enter Try.func41, Try.ntmps41
    go_wp2
    exact bodyPost_ret (v := .tuple #[.agg #[I p.phase, I p.node, I p.val], I 0]) (by simp [results, Try.results41, go_sem]) rfl ⟨rfl, ((Below.refl _ _).alloc (Nat.le_refl _) _).alloc (by simp) _⟩
  · have hV := HV.out
    rw [if_neg hn] at hV
    subst hV
    clear HV hp
    by_cases h0 : n < 0
    · clear hn
      go_enter Try.func41, Try.ntmps41
      go_wp2
      exact bodyPost_ret (v := .tuple #[.agg #[I 0, I 0, I 0], I 5]) (by simp [results, Try.results41, go_sem]) rfl ⟨rfl, (Below.refl _ _).alloc (Nat.le_refl _) _⟩
    · have hge : (ps.length : Int) ≤ n := by omega
      clear hn
      have hd : decide (n < 0) = false := by simpa using h0
      go_enter Try.func41, Try.ntmps41
      go_wp2
      exact bodyPost_ret (v := .tuple #[.agg #[I 0, I 0, I 0], I 5]) (by simp [results, Try.results41, go_sem]) rfl ⟨rfl, (Below.refl _ _).alloc (Nat.le_refl _) _⟩

theorem cells_new_at (w : World) (xs : List Value) (T : TypeId) (n : Nat) (hn : n = w.heap.size) : ∀ (j : Nat) (u : Value), xs[j]? = some u → (w.alloc (.cells xs.toArray T)).cell? ((⟨n, 0, none⟩ : Addr).add j) = some u := by
  subst hn; exact cells_new w xs T

/-- A stretch of a list written anew. -/
def setSeg (l : List Value) : Nat → List Value → List Value
  | _, [] => l
  | o, x :: r => setSeg (l.set o x) (o + 1) r

theorem setSeg_mid (a b c x : List Value) (h : b.length = x.length) : setSeg (a ++ (b ++ c)) a.length x = a ++ (x ++ c) := by
  induction x generalizing a b with
  | nil =>
    have : b = [] := List.eq_nil_of_length_eq_zero (by simpa using h)
    subst this; rfl
  | cons y r ih =>
    cases b with
    | nil => simp at h
    | cons z b =>
      simp only [setSeg]
      have e : (a ++ (z :: b ++ c)).set a.length y = (a ++ [y]) ++ (b ++ c) := by
        rw [List.set_append_right _ _ (Nat.le_refl _)]; simp
      rw [e, show a.length + 1 = (a ++ [y]).length from by simp, ih (a ++ [y]) b (by simpa using h)]
      simp

theorem flat_split {α : Type} (f : α → List Value) (l : List α) (k : Nat) (hk : k < l.length) (x : α) : l.flatMap f = (l.take k).flatMap f ++ (f l[k] ++ (l.drop (k + 1)).flatMap f) ∧ (l.set k x).flatMap f = (l.take k).flatMap f ++ (f x ++ (l.drop (k + 1)).flatMap f) := by
  constructor
  · have e : l = l.take k ++ l[k] :: l.drop (k + 1) := by rw [← List.drop_eq_getElem_cons hk, List.take_append_drop]
    have e2 := congrArg (List.flatMap f) e
    rw [List.flatMap_append, List.flatMap_cons] at e2
    exact e2
  · rw [List.set_eq_take_append_cons_drop, if_pos hk]
    simp

theorem pTree_set (L : PLay) (v : Nat) (hv : v < L.nodes.length) (n : PN) : setSeg (pTree L) (8 + v * 21) (pnCells n) = pTree { L with nodes := L.nodes.set v n } := by
  obtain ⟨h1, h2⟩ := flat_split pnCells L.nodes v hv n
  simp only [pTree]
  rw [h1, h2]
  have e1 : pConf L.c ++ ((L.nodes.take v).flatMap pnCells ++ (pnCells L.nodes[v] ++ (L.nodes.drop (v + 1)).flatMap pnCells) ++ [L.pv]) = (pConf L.c ++ (L.nodes.take v).flatMap pnCells) ++ (pnCells L.nodes[v] ++ ((L.nodes.drop (v + 1)).flatMap pnCells ++ [L.pv])) := by simp
  have e2 : pConf L.c ++ ((L.nodes.take v).flatMap pnCells ++ (pnCells n ++ (L.nodes.drop (v + 1)).flatMap pnCells) ++ [L.pv]) = (pConf L.c ++ (L.nodes.take v).flatMap pnCells) ++ (pnCells n ++ ((L.nodes.drop (v + 1)).flatMap pnCells ++ [L.pv])) := by simp
  have e3 : 8 + v * 21 = (pConf L.c ++ (L.nodes.take v).flatMap pnCells).length := by
    rw [List.length_append, flat_length pnCells 21 pn_len, List.length_take]
    have : (pConf L.c).length = 8 := rfl
    rw [this, Nat.min_eq_left (by omega)]
  rw [e1, e2, e3]
  exact setSeg_mid _ _ _ _ rfl

theorem block_setCells {T : TypeId} (b : Nat) (xs : List Value) : ∀ (o : Nat) (w : World) (l : List Value), w.heap[b]? = some (.cells l.toArray T (0, 0)) → (w.setCells b o xs).heap[b]? = some (.cells (setSeg l o xs).toArray T (0, 0)) := by
  induction xs with
  | nil => intro o w l h; exact h
  | cons x r ih =>
    intro o w l h
    simp only [World.setCells, setSeg]
    refine ih (o + 1) _ _ ?_
    have := nb_set h o x
    simpa using this
theorem heap_setCells (b : Nat) (xs : List Value) : ∀ (o : Nat) (w : World) (k : Nat), k ≠ b → (w.setCells b o xs).heap[k]? = w.heap[k]? := by
  induction xs with
  | nil => intro o w k h; rfl
  | cons x r ih =>
    intro o w k h
    simp only [World.setCells]
    rw [ih (o + 1) _ k h, Below.heap_setCell _ _ _ _ h]
theorem below_setCells {B : Nat} {a : World} (b : Nat) (hb : B ≤ b) (xs : List Value) : ∀ (o : Nat) (w : World), Below B a w → Below B a (w.setCells b o xs) := by
  induction xs with
  | nil => intro o w h; exact h
  | cons x r ih => intro o w h; exact ih (o + 1) _ (h.setCell hb x)

theorem ownsRow_block_kept {w w' : World} {base : Nat} {e : TypeId} {size : Nat} {v : Value} {n : Nat} {xs : List Value} (h : w.ownsRow base e size v n xs) {b : Nat} {cs : Array Value} {T : TypeId} (hb : w.heap[b]? = some (.cells cs T (0, 0))) (hT : T ≠ e)
    (hk : ∀ k, k ≠ b → w'.heap[k]? = w.heap[k]?) : w'.ownsRow base e size v n xs := by
  obtain ⟨h1, h2⟩ := h
  refine ⟨h1, ?_⟩
  rcases h2 with h2 | ⟨g, cap, cur, hv, hg, hh, r⟩
  · exact Or.inl h2
  · refine Or.inr ⟨g, cap, cur, hv, hg, ?_, r⟩
    rw [hk g (by intro e; subst e; rw [hb] at hh; simp at hh; exact hT hh.2)]
    exact hh

/-- A node of the program's tree is written whole. -/
theorem PRep.setNode {w : World} {B : Nat} {L : PLay} (h : PRep w B L) (v : Nat) (hv : v < L.nodes.length) (n : PN) (hn : w.ownsRow B 135 2 n.iv n.items.length (n.items.flatMap fun y => [I y.1, I y.2])) (hnb : n.iv.ownBlock = none) :
    PRep (w.setCells L.tb (8 + v * 21) (pnCells n)) B { L with nodes := L.nodes.set v n } where
  tree := by rw [← pTree_set L v hv n]; exact block_setCells L.tb (pnCells n) _ _ _ h.tree
  treeB := h.treeB
  len := by simpa using h.len
  prow := ownsRow_block_kept h.prow h.tree (by decide) (fun k hk => heap_setCells _ _ _ _ k hk)
  items := fun u hu' => by
    have hu : u < L.nodes.length := by simpa using hu'
    by_cases e : u = v
    · subst e
      simp only [List.getElem_set_self]
      exact ownsRow_block_kept hn h.tree (by decide) (fun k hk => heap_setCells _ _ _ _ k hk)
    · simp only [List.getElem_set_ne (Ne.symm e)]
      exact ownsRow_block_kept (h.items u hu) h.tree (by decide) (fun k hk => heap_setCells _ _ _ _ k hk)
  ind := fun a b ha hb g e1 e2 => by
    have ha' : a < L.nodes.length := by simpa using ha
    have hb' : b < L.nodes.length := by simpa using hb
    by_cases ea : a = v
    · subst ea
      simp only [List.getElem_set_self] at e1
      rw [hnb] at e1
      exact absurd e1 (by simp)
    · by_cases eb : b = v
      · subst eb
        simp only [List.getElem_set_self] at e2
        rw [hnb] at e2
        exact absurd e2 (by simp)
      · simp only [List.getElem_set_ne (Ne.symm ea)] at e1
        simp only [List.getElem_set_ne (Ne.symm eb)] at e2
        exact h.ind a b ha' hb' g e1 e2

theorem PRep.there {w : World} {B : Nat} {L : PLay} (h : PRep w B L) (v : Nat) (hv : v < L.nodes.length) : w.there L.tb (8 + v * 21) 21 := by
  intro j hj
  refine ⟨?_, (nb_facts h.tree).2 _⟩
  rw [h.ncell v hv j hj]
  have : j < (pnCells L.nodes[v]).length := hj
  simp [List.getElem?_eq_getElem this]

def newPN (fl : Nat) (v : Nat) : PN := if v < fl then innerPN else if v < 2 * fl then leafPN else zeroPN

theorem Try.size74 : (Try.prog.info? 74).map (·.size) = some 21 := by kernel_rfl

/-- On the way: the nodes below k are laid out. -/
structure PMid (L : PLay) (fl k : Nat) (L' : PLay) : Prop where
  tb : L'.tb = L.tb
  c : L'.c = L.c
  pv : L'.pv = L.pv
  procs : L'.procs = L.procs
  nodes : ∀ v, 1 ≤ v → v < 32 → L'.nodes.getD v zeroPN = if v < k then newPN fl v else zeroPN

theorem PMid.step {L : PLay} {fl k : Nat} {L' : PLay} (h : PMid L fl k L') (hl : L'.nodes.length = 32) (hk : k < 32) (n : PN) (hn : n = newPN fl k) : PMid L fl (k + 1) { L' with nodes := L'.nodes.set k n } where
  tb := h.tb
  c := h.c
  pv := h.pv
  procs := h.procs
  nodes := fun v h1 h2 => by
    by_cases e : v = k
    · subst e
      simp [List.getD_eq_getElem?_getD, hl, hk, hn]
    · have := h.nodes v h1 h2
      simp only [List.getD_eq_getElem?_getD] at this
      simp only [List.getD_eq_getElem?_getD, List.getElem?_set_ne (Ne.symm e)]
      rw [this]
      by_cases h3 : v < k
      · rw [if_pos h3, if_pos (by omega)]
      · rw [if_neg h3, if_neg (by omega)]

theorem pn_size (n : PN) : (pnCells n).toArray.size = 21 := rfl
theorem pn_one (n : PN) (h : ∃ a l c, n.iv = .slice a l c) : (pnCells n).toArray.all (·.oneCell') = true := by
  obtain ⟨a, l, c, h⟩ := h
  refine all_oneCell_toArray fun u hu => ?_
  simp only [pnCells, List.mem_cons, List.not_mem_nil, or_false] at hu
  rcases hu with h' | h' | h' | h' | h' | h' | h' | h' | h' | h' | h' | h' | h' | h' | h' | h' | h' | h' | h' | h' | h' <;> subst h' <;> first | rfl | (rw [h]; rfl)

set_option maxHeartbeats 4000000 in
set_option maxRecDepth 100000 in
theorem plant_c {w : World} {B : Nat} {L : PLay} (h : PRep w B L) (s : Nat) (hs : L.c.start = s) (hs4 : s ≤ 4) (hz : L.nodes = List.replicate 32 zeroPN) :
    Calls Try.prog 66 #[.pointer (some ⟨L.tb, 0, none⟩)] w fun e w' => e = .returned (.tuple #[]) ∧ (∃ L', PRep w' B L' ∧ PMid L (2 ^ s) 32 L') ∧ Below B w w' := by
  have c2 : w.cell? ⟨L.tb, 2, none⟩ = some (I s) := by rw [h.ccell 2 (by omega), ← hs]; rfl
  have hf := firstOfDepth_c s (by omega) w
  obtain ⟨fl, hfl⟩ : ∃ fl : Nat, fl = 2 ^ s := ⟨_, rfl⟩
  have hfl16 : fl ≤ 16 := by rw [hfl]; exact Nat.le_trans (Nat.pow_le_pow_right (by omega) hs4) (by decide)
  have hfl1 : 1 ≤ fl := by rw [hfl]; exact Nat.two_pow_pos _
  rw [← hfl] at hf ⊢
  have hmid : PMid L fl 1 L := ⟨rfl, rfl, rfl, rfl, fun v h1 h2 => by rw [if_neg (by omega), hz, List.getD_eq_getElem?_getD, List.getElem?_replicate, if_pos h2]; rfl⟩
  have hsz := h.treeB
  clear hfl hs hs4 hz
  go_enter Try.func66, Try.ntmps66
  go_wp2_with fail
  refine hf.mono ?_
  rintro e w1 ⟨rfl, rfl⟩
  clear hf
  go_wp2_with fail
  go_loopw [3] (fun i wr => ∃ (k : Nat) (L' : PLay), 1 ≤ k ∧ k ≤ 2 * fl ∧ i = .int .i64 k ∧ PRep wr B L' ∧ PMid L fl k L' ∧ Below B w1 wr) (fun i _ => 32 - (intOf i).toNat)
  case atStart => exact ⟨1, L, by omega, by omega, rfl, h, hmid, Below.refl _ _⟩
  case round =>
    obtain ⟨k, L', hk1, hk, rfl, hrep, hm, hbr⟩ := hrel
    by_cases hlt : k < 2 * fl
    · have hlt32 : k < 32 := by omega
      have hkl : k < L'.nodes.length := by rw [hrep.len]; omega
      have HTH : Hid (∀ n : PN, wr.there L.tb (8 + k * 21) (pnCells n).toArray.size) := fun n => by have := hrep.there k hkl; rw [hm.tb] at this; rw [pn_size]; exact this
      have HSZ : Hid (∀ n : PN, (Try.prog.info? 74).map (·.size) = some (pnCells n).toArray.size) := fun n => by rw [pn_size]; exact Try.size74
      have hlt' : (k : Int) < 2 * fl := by omega
      by_cases hin : k < fl
      · have hnew : innerPN = newPN fl k := by simp [newPN, hin]
        have hrep2 := hrep.setNode k hkl innerPN (World.ownsRow_nil _ _ _ _) rfl
        have hm2 := hm.step hrep.len hlt32 innerPN hnew
        have hb2 := below_setCells L'.tb hrep.treeB (pnCells innerPN) (8 + k * 21) wr hbr
        rw [hm.tb] at hrep2 hb2 hm2
        replace hrep2 : Hid _ := hrep2
        replace hb2 : Hid _ := hb2
        clear hnew hrep hbr hm
        go_wp2_with (with_reducible refine wpList_store_mid rfl 74 (.tmp 28) (.tmp 25) rfl L.tb (8 + k * 21) (pnCells innerPN).toArray ?hx ?hy (HTH.out innerPN) (HSZ.out innerPN) (pn_one innerPN ⟨_, _, _, rfl⟩) ?_)
        case hx => rfl
        case hy => rfl
        go_wp2
        go_roundw
        case rel => exact ⟨k + 1, _, by omega, by omega, by go_num, hrep2, hm2, hb2⟩
        case measure => simp [intOf]; omega
      · have hnew : leafPN = newPN fl k := by simp [newPN, hin, hlt]
        have hrep2 := hrep.setNode k hkl leafPN (World.ownsRow_nil _ _ _ _) rfl
        have hm2 := hm.step hrep.len hlt32 leafPN hnew
        have hb2 := below_setCells L'.tb hrep.treeB (pnCells leafPN) (8 + k * 21) wr hbr
        rw [hm.tb] at hrep2 hb2 hm2
        replace hrep2 : Hid _ := hrep2
        replace hb2 : Hid _ := hb2
        clear hnew hrep hbr hm
        go_wp2_with (with_reducible refine wpList_store_mid rfl 74 (.tmp 34) (.tmp 31) rfl L.tb (8 + k * 21) (pnCells leafPN).toArray ?hx ?hy (HTH.out leafPN) (HSZ.out leafPN) (pn_one leafPN ⟨_, _, _, rfl⟩) ?_)
        case hx => rfl
        case hy => rfl
        go_wp2
        go_roundw
        case rel => exact ⟨k + 1, _, by omega, by omega, by go_num, hrep2, hm2, hb2⟩
        case measure => simp [intOf]; omega
    · have e : k = 2 * fl := by omega
      have hm32 : PMid L fl 32 L' := ⟨hm.tb, hm.c, hm.pv, hm.procs, fun v h1 h2 => by
        rw [hm.nodes v h1 h2, if_pos h2]
        by_cases h3 : v < k
        · rw [if_pos h3]
        · rw [if_neg h3]; simp [newPN, show ¬ v < fl from by omega, show ¬ v < 2 * fl from by omega]⟩
      have hd : decide ((k : Int) < 2 * fl) = false := by simp; omega
      go_wp2_with fail
      go_end0
      exact ⟨rfl, ⟨L', hrep, hm32⟩, hbr⟩

end Go.Proofs.Ytjnmpejcegmkhaa
