/- What a tree of package prismref is in memory (RefRep), said of plain data; small facts on it. No statement of the seat is proved here. -/
import Derived.Test.YtjnmpejcegmkhaaRows
import Derived.WalkKit
import Derived.WalkSpells
import Derived.WalkLawsBesides
namespace Go.Proofs.Ytjnmpejcegmkhaa
open Go.RowKit

abbrev I (n : Int) : Value := .int .i64 n

structure Ev where
  what : Int
  n : Int
  v : Int
  items : List Int

structure Pr where
  kind : Int
  oval : Int
  onode : Int
  phase : Int
  node : Int
  val : Int
  wide : Int
  slot : Int
  pat : Int
  mind : Int
  met : Int
  ticket : Int
  steps : Int

structure Conf where
  kind : Int
  depth : Int
  start : Int
  slots : Int
  width : Int
  spin : Int
  drain : Int
  procs : Int

abbrev Hist := List (Ev × Value)

structure Lay where
  tb : Nat
  c : Conf
  pv : Value
  procs : List (Nat × Pr)
  hv : Value
  past : List (Value × Hist)

def confCells (c : Conf) : Array Value := #[I c.kind, I c.depth, I c.start, I c.slots, I c.width, I c.spin, I c.drain, I c.procs]
def treeCells (L : Lay) : Array Value := #[I L.c.kind, I L.c.depth, I L.c.start, I L.c.slots, I L.c.width, I L.c.spin, I L.c.drain, I L.c.procs, L.pv, L.hv]
def prCells (p : Pr) : Array Value := #[I p.kind, I p.oval, I p.onode, I p.phase, I p.node, I p.val, I p.wide, I p.slot, I p.pat, I p.mind, I p.met, I p.ticket, I p.steps]
def evCells (e : Ev × Value) : List Value := [I e.1.what, I e.1.n, I e.1.v, e.2]
def histCells : Hist → List Value
  | [] => []
  | e :: r => histCells r ++ evCells e

structure RefRep (w : World) (B : Nat) (L : Lay) : Prop where
  tree : w.heap[L.tb]? = some (.cells (treeCells L) 110 (0, 0))
  treeB : B ≤ L.tb
  prow : w.ownsRow B 129 1 L.pv L.procs.length (L.procs.map fun p => .pointer (some ⟨p.1, 0, none⟩))
  pblk : ∀ i, (hi : i < L.procs.length) → w.heap[(L.procs[i]).1]? = some (.cells (prCells (L.procs[i]).2) 128 (0, 0)) ∧ B ≤ (L.procs[i]).1
  pnd : ∀ i j, (hi : i < L.procs.length) → (hj : j < L.procs.length) → (L.procs[i]).1 = (L.procs[j]).1 → i = j
  hrow : w.ownsRow B 136 1 L.hv L.past.length (L.past.map fun x => x.1)
  hist : ∀ i, (hi : i < L.past.length) → w.ownsRow B 125 4 (L.past[i]).1 (L.past[i]).2.length (histCells (L.past[i]).2)
  items : ∀ i, (hi : i < L.past.length) → ∀ y ∈ (L.past[i]).2, w.ownsRow B 3 1 y.2 y.1.items.length (y.1.items.map I)
  hnd : ∀ i j, (hi : i < L.past.length) → (hj : j < L.past.length) → ∀ g, (L.past[i]).1.ownBlock = some g → (L.past[j]).1.ownBlock = some g → i = j

theorem histCells_length (l : Hist) : (histCells l).length = l.length * 4 := by
  induction l with
  | nil => rfl
  | cons e r ih => simp [histCells, evCells, ih]; omega

/-- The cells of the event that has r behind it (older than it). -/
theorem histCells_at (a : Hist) (e : Ev × Value) (r : Hist) (j : Nat) (hj : j < 4) : (histCells (a ++ e :: r))[r.length * 4 + j]? = (evCells e)[j]? := by
  induction a with
  | nil =>
    simp only [List.nil_append, histCells]
    rw [List.getElem?_append_right (by rw [histCells_length]; omega), histCells_length]
    congr 1; omega
  | cons x a ih =>
    simp only [List.cons_append, histCells]
    rw [List.getElem?_append_left (by rw [histCells_length]; simp; omega)]
    exact ih

theorem ownsRow_cells {w : World} {base : Nat} {e : TypeId} {size : Nat} {v : Value} {n : Nat} {xs : List Value} (h : w.ownsRow base e size v n xs) :
    ∃ ao cap, v = .slice ao n cap ∧ n ≤ cap ∧ n ≤ maxLen ∧ cap ≤ maxLen ∧ ∀ j u, xs[j]? = some u → ∃ g, ao = some ⟨g, 0, none⟩ ∧ base ≤ g ∧ w.cell? ⟨g, j, none⟩ = some u := by
  obtain ⟨h1, h2⟩ := h
  rcases h2 with ⟨rfl, rfl⟩ | ⟨g, cap, cur, rfl, hg, hh, hn, hc, hcs, ht⟩
  · refine ⟨none, 0, rfl, Nat.le_refl _, Nat.zero_le _, Nat.zero_le _, fun j u hj => ?_⟩
    simp at h1; subst h1; simp at hj
  · refine ⟨some ⟨g, 0, none⟩, cap, rfl, hn, Nat.le_trans hn hc, hc, fun j u hj => ⟨g, rfl, hg, ?_⟩⟩
    subst ht
    have hj' : j < n * size := by
      have := List.getElem?_eq_some_iff.1 hj
      obtain ⟨hlt, _⟩ := this
      simp at hlt; omega
    rw [List.getElem?_take_of_lt hj'] at hj
    simp [World.cell?, hh]
    simpa using hj

theorem block_cell {w : World} {b : Nat} {cs : Array Value} {e : TypeId} {f : Nat × Nat} (h : w.heap[b]? = some (.cells cs e f)) (j : Nat) : w.cell? ⟨b, j, none⟩ = cs[j]? := by
  simp [World.cell?, h]

theorem cell_lt {w : World} {b o : Nat} {v : Value} (h : w.cell? ⟨b, o, none⟩ = some v) : b < w.heap.size := by
  unfold World.cell? at h
  split at h
  · next hh => exact (Array.getElem?_eq_some_iff.1 hh).1
  · simp at h

/-- What is read of the tree itself. -/
theorem RefRep.hv_cell {w : World} {B : Nat} {L : Lay} (h : RefRep w B L) : w.cell? ⟨L.tb, 9, none⟩ = some L.hv := by rw [block_cell h.tree]; rfl
theorem RefRep.pv_cell {w : World} {B : Nat} {L : Lay} (h : RefRep w B L) : w.cell? ⟨L.tb, 8, none⟩ = some L.pv := by rw [block_cell h.tree]; rfl

theorem RefRep.past_at {w : World} {B : Nat} {L : Lay} (h : RefRep w B L) {v : Nat} (hv : v < L.past.length) :
    ∃ hb cap, L.hv = .slice (some ⟨hb, 0, none⟩) L.past.length cap ∧ L.past.length ≤ cap ∧ cap ≤ maxLen ∧ w.cell? ⟨hb, v, none⟩ = some (L.past[v]).1 := by
  obtain ⟨ao, cap, h1, h2, h3, h4, h5⟩ := ownsRow_cells h.hrow
  obtain ⟨g, rfl, _, hc⟩ := h5 v (L.past[v]).1 (by simp [hv])
  exact ⟨g, cap, h1, h2, h4, hc⟩

def Lay.hist (L : Lay) (v : Nat) : Hist := (L.past.getD v (.slice none 0 0, [])).2

theorem RefRep.hist_at {w : World} {B : Nat} {L : Lay} (h : RefRep w B L) {v : Nat} (hv : v < L.past.length) :
    ∃ ao cap, (L.past[v]).1 = .slice ao (L.hist v).length cap ∧ (L.hist v).length ≤ cap ∧ (L.hist v).length ≤ maxLen ∧
      ∀ a e r, L.hist v = a ++ e :: r → ∃ lb, ao = some ⟨lb, 0, none⟩ ∧ w.cell? ⟨lb, r.length * 4, none⟩ = some (I e.1.what) ∧ w.cell? ⟨lb, r.length * 4 + 1, none⟩ = some (I e.1.n) ∧
        w.cell? ⟨lb, r.length * 4 + 2, none⟩ = some (I e.1.v) ∧ w.cell? ⟨lb, r.length * 4 + 3, none⟩ = some e.2 := by
  have hh : L.hist v = (L.past[v]).2 := by simp [Lay.hist, hv]
  rw [hh]
  obtain ⟨ao, cap, h1, h2, h3, h4, h5⟩ := ownsRow_cells (h.hist v hv)
  refine ⟨ao, cap, h1, h2, h3, fun a e r hl => ?_⟩
  have key : ∀ j, j < 4 → (histCells (L.past[v]).2)[r.length * 4 + j]? = (evCells e)[j]? := fun j hj => by rw [hl]; exact histCells_at a e r j hj
  obtain ⟨g, rfl, _, c0⟩ := h5 (r.length * 4 + 0) (I e.1.what) (by rw [key 0 (by omega)]; rfl)
  obtain ⟨g1, e1, _, c1⟩ := h5 (r.length * 4 + 1) (I e.1.n) (by rw [key 1 (by omega)]; rfl)
  obtain ⟨g2, e2, _, c2⟩ := h5 (r.length * 4 + 2) (I e.1.v) (by rw [key 2 (by omega)]; rfl)
  obtain ⟨g3, e3, _, c3⟩ := h5 (r.length * 4 + 3) e.2 (by rw [key 3 (by omega)]; rfl)
  simp at e1 e2 e3; subst e1 e2 e3
  exact ⟨g, rfl, c0, c1, c2, c3⟩

theorem RefRep.items_at {w : World} {B : Nat} {L : Lay} (h : RefRep w B L) {v : Nat} (hv : v < L.past.length) {e : Ev × Value} (he : e ∈ L.hist v) :
    ∃ ao cap, e.2 = .slice ao e.1.items.length cap ∧ e.1.items.length ≤ cap ∧ e.1.items.length ≤ maxLen ∧
      ∀ i, (hi : i < e.1.items.length) → ∃ g, ao = some ⟨g, 0, none⟩ ∧ w.cell? ⟨g, i, none⟩ = some (I e.1.items[i]) := by
  have hh : L.hist v = (L.past[v]).2 := by simp [Lay.hist, hv]
  rw [hh] at he
  obtain ⟨ao, cap, h1, h2, h3, h4, h5⟩ := ownsRow_cells (h.items v hv e he)
  refine ⟨ao, cap, h1, h2, h3, fun i hi => ?_⟩
  obtain ⟨g, e, _, c⟩ := h5 i (I e.1.items[i]) (by simp [hi])
  exact ⟨g, e, c⟩

theorem RefRep.proc_at {w : World} {B : Nat} {L : Lay} (h : RefRep w B L) :
    ∃ ao cap, L.pv = .slice ao L.procs.length cap ∧ L.procs.length ≤ cap ∧ L.procs.length ≤ maxLen ∧ cap ≤ maxLen ∧
      ∀ i, (hi : i < L.procs.length) → ∃ g, ao = some ⟨g, 0, none⟩ ∧ w.cell? ⟨g, i, none⟩ = some (.pointer (some ⟨(L.procs[i]).1, 0, none⟩)) := by
  obtain ⟨ao, cap, h1, h2, h3, h4, h5⟩ := ownsRow_cells h.prow
  refine ⟨ao, cap, h1, h2, h3, h4, fun i hi => ?_⟩
  obtain ⟨g, e, _, c⟩ := h5 i (.pointer (some ⟨(L.procs[i]).1, 0, none⟩)) (by simp [hi])
  exact ⟨g, e, c⟩

theorem RefRep.size {w : World} {B : Nat} {L : Lay} (h : RefRep w B L) : L.tb < w.heap.size := by
  have := h.tree
  exact (Array.getElem?_eq_some_iff.1 this).1

/-- What only grows keeps a tree. -/
theorem ownsRow_below {w w' : World} {C : Nat} {base : Nat} {e : TypeId} {size : Nat} {v : Value} {n : Nat} {xs : List Value} (h : w.ownsRow base e size v n xs) (hb : Below C w w') (hC : w.heap.size ≤ C) : w'.ownsRow base e size v n xs := by
  obtain ⟨h1, h2⟩ := h
  refine ⟨h1, ?_⟩
  rcases h2 with h2 | ⟨g, cap, cur, hv, hg, hh, r⟩
  · exact Or.inl h2
  · have : g < w.heap.size := (Array.getElem?_eq_some_iff.1 hh).1
    exact Or.inr ⟨g, cap, cur, hv, hg, by rw [hb.block g (by omega)]; exact hh, r⟩

theorem RefRep.below {w w' : World} {B : Nat} {L : Lay} (h : RefRep w B L) (hb : Below w.heap.size w w') : RefRep w' B L where
  tree := by rw [hb.block _ h.size]; exact h.tree
  treeB := h.treeB
  prow := ownsRow_below h.prow hb (Nat.le_refl _)
  pblk := fun i hi => by
    obtain ⟨h1, h2⟩ := h.pblk i hi
    have : (L.procs[i]).1 < w.heap.size := (Array.getElem?_eq_some_iff.1 h1).1
    exact ⟨by rw [hb.block _ this]; exact h1, h2⟩
  pnd := h.pnd
  hrow := ownsRow_below h.hrow hb (Nat.le_refl _)
  hist := fun i hi => ownsRow_below (h.hist i hi) hb (Nat.le_refl _)
  items := fun i hi y hy => ownsRow_below (h.items i hi y hy) hb (Nat.le_refl _)
  hnd := h.hnd

end Go.Proofs.Ytjnmpejcegmkhaa
