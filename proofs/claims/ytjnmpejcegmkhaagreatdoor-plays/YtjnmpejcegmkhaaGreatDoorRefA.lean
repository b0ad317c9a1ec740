/- What a tree of package prismref is in memory (RefRep), said of plain data; small facts on it. Contracts of package prismref's functions that only read: each returns what a plain function of the tree's data tells. Contracts of package prismref's functions that only read, second part: many, width, from, toggle, puts, gets. Contracts of package prismref's functions that only read, third part: item, items. Contracts of package prismref's functions that only read, fourth part: those over the processes. Contracts of package prismref's functions that only read, fifth part: waits, Live, Proc, Changes. The contract of package prismref's Nodes. The contract of package prismref's May. Contracts of package prismref's happens, May and New. What happens at a node, said of the tree's data. The contract of package prismref's New. No statement of the seat is proved here. -/
import Derived.Test.YtjnmpejcegmkhaaGreatDoorRows
import Derived.WalkKit
import Derived.WalkSpells
import Derived.WalkLawsBesides
import Derived.Deep.QuietTactic
import Derived.BigQuiet
import Derived.Deep.RegionLaw
import Derived.Deep.AppendLies
namespace Go.Proofs.YtjnmpejcegmkhaaGreatDoor
open Go.RowKit

abbrev I (n : Int) : Value := .int .i64 n

structure Ev where
  what : Int
  n : Int
  v : Int
  items : List Int

structure Pr where
  kind : Int
  oval : Int
  onode : Int
  phase : Int
  node : Int
  val : Int
  wide : Int
  slot : Int
  pat : Int
  mind : Int
  met : Int
  ticket : Int
  steps : Int

structure Conf where
  kind : Int
  depth : Int
  start : Int
  slots : Int
  width : Int
  spin : Int
  drain : Int
  procs : Int

abbrev Hist := List (Ev × Value)

structure Lay where
  tb : Nat
  c : Conf
  pv : Value
  procs : List (Nat × Pr)
  hv : Value
  past : List (Value × Hist)

def treeCells (L : Lay) : Array Value := #[I L.c.kind, I L.c.depth, I L.c.start, I L.c.slots, I L.c.width, I L.c.spin, I L.c.drain, I L.c.procs, L.pv, L.hv]
def prCells (p : Pr) : Array Value := #[I p.kind, I p.oval, I p.onode, I p.phase, I p.node, I p.val, I p.wide, I p.slot, I p.pat, I p.mind, I p.met, I p.ticket, I p.steps]
def evCells (e : Ev × Value) : List Value := [I e.1.what, I e.1.n, I e.1.v, e.2]
def histCells : Hist → List Value
  | [] => []
  | e :: r => histCells r ++ evCells e

structure RefRep (w : World) (B : Nat) (L : Lay) : Prop where
  tree : w.heap[L.tb]? = some (.cells (treeCells L) 65 (0, 0))
  treeB : B ≤ L.tb
  prow : w.ownsRow B 107 1 L.pv L.procs.length (L.procs.map fun p => .pointer (some ⟨p.1, 0, none⟩))
  pblk : ∀ i, (hi : i < L.procs.length) → w.heap[(L.procs[i]).1]? = some (.cells (prCells (L.procs[i]).2) 109 (0, 0)) ∧ B ≤ (L.procs[i]).1
  pnd : ∀ i j, (hi : i < L.procs.length) → (hj : j < L.procs.length) → (L.procs[i]).1 = (L.procs[j]).1 → i = j
  hrow : w.ownsRow B 91 1 L.hv L.past.length (L.past.map fun x => x.1)
  hist : ∀ i, (hi : i < L.past.length) → w.ownsRow B 69 4 (L.past[i]).1 (L.past[i]).2.length (histCells (L.past[i]).2)
  items : ∀ i, (hi : i < L.past.length) → ∀ y ∈ (L.past[i]).2, w.ownsRow B 3 1 y.2 y.1.items.length (y.1.items.map I)
  hnd : ∀ i j, (hi : i < L.past.length) → (hj : j < L.past.length) → ∀ g, (L.past[i]).1.ownBlock = some g → (L.past[j]).1.ownBlock = some g → i = j

theorem histCells_length (l : Hist) : (histCells l).length = l.length * 4 := by
  induction l with
  | nil => rfl
  | cons e r ih => simp [histCells, evCells, ih]; omega

/-- The cells of the event that has r behind it (older than it). -/
theorem histCells_at (a : Hist) (e : Ev × Value) (r : Hist) (j : Nat) (hj : j < 4) : (histCells (a ++ e :: r))[r.length * 4 + j]? = (evCells e)[j]? := by
  induction a with
  | nil =>
    simp only [List.nil_append, histCells]
    rw [List.getElem?_append_right (by rw [histCells_length]; omega), histCells_length]
    congr 1; omega
  | cons x a ih =>
    simp only [List.cons_append, histCells]
    rw [List.getElem?_append_left (by rw [histCells_length]; simp; omega)]
    exact ih

theorem ownsRow_cells {w : World} {base : Nat} {e : TypeId} {size : Nat} {v : Value} {n : Nat} {xs : List Value} (h : w.ownsRow base e size v n xs) :
    ∃ ao cap, v = .slice ao n cap ∧ n ≤ cap ∧ n ≤ maxLen ∧ cap ≤ maxLen ∧ ∀ j u, xs[j]? = some u → ∃ g, ao = some ⟨g, 0, none⟩ ∧ base ≤ g ∧ w.cell? ⟨g, j, none⟩ = some u := by
  obtain ⟨h1, h2⟩ := h
  rcases h2 with ⟨rfl, rfl⟩ | ⟨g, cap, cur, rfl, hg, hh, hn, hc, hcs, ht⟩
  · refine ⟨none, 0, rfl, Nat.le_refl _, Nat.zero_le _, Nat.zero_le _, fun j u hj => ?_⟩
    simp at h1; subst h1; simp at hj
  · refine ⟨some ⟨g, 0, none⟩, cap, rfl, hn, Nat.le_trans hn hc, hc, fun j u hj => ⟨g, rfl, hg, ?_⟩⟩
    subst ht
    have hj' : j < n * size := by
      have := List.getElem?_eq_some_iff.1 hj
      obtain ⟨hlt, _⟩ := this
      simp at hlt; omega
    rw [List.getElem?_take_of_lt hj'] at hj
    simp [World.cell?, hh]
    simpa using hj

theorem block_cell {w : World} {b : Nat} {cs : Array Value} {e : TypeId} {f : Nat × Nat} (h : w.heap[b]? = some (.cells cs e f)) (j : Nat) : w.cell? ⟨b, j, none⟩ = cs[j]? := by
  simp [World.cell?, h]

theorem cell_lt {w : World} {b o : Nat} {v : Value} (h : w.cell? ⟨b, o, none⟩ = some v) : b < w.heap.size := by
  unfold World.cell? at h
  split at h
  · next hh => exact (Array.getElem?_eq_some_iff.1 hh).1
  · simp at h

/-- What is read of the tree itself. -/
theorem RefRep.hv_cell {w : World} {B : Nat} {L : Lay} (h : RefRep w B L) : w.cell? ⟨L.tb, 9, none⟩ = some L.hv := by rw [block_cell h.tree]; rfl
theorem RefRep.pv_cell {w : World} {B : Nat} {L : Lay} (h : RefRep w B L) : w.cell? ⟨L.tb, 8, none⟩ = some L.pv := by rw [block_cell h.tree]; rfl

theorem RefRep.past_at {w : World} {B : Nat} {L : Lay} (h : RefRep w B L) {v : Nat} (hv : v < L.past.length) :
    ∃ hb cap, L.hv = .slice (some ⟨hb, 0, none⟩) L.past.length cap ∧ L.past.length ≤ cap ∧ cap ≤ maxLen ∧ w.cell? ⟨hb, v, none⟩ = some (L.past[v]).1 := by
  obtain ⟨ao, cap, h1, h2, h3, h4, h5⟩ := ownsRow_cells h.hrow
  obtain ⟨g, rfl, _, hc⟩ := h5 v (L.past[v]).1 (by simp [hv])
  exact ⟨g, cap, h1, h2, h4, hc⟩

def Lay.hist (L : Lay) (v : Nat) : Hist := (L.past.getD v (.slice none 0 0, [])).2

theorem RefRep.hist_at {w : World} {B : Nat} {L : Lay} (h : RefRep w B L) {v : Nat} (hv : v < L.past.length) :
    ∃ ao cap, (L.past[v]).1 = .slice ao (L.hist v).length cap ∧ (L.hist v).length ≤ cap ∧ (L.hist v).length ≤ maxLen ∧
      ∀ a e r, L.hist v = a ++ e :: r → ∃ lb, ao = some ⟨lb, 0, none⟩ ∧ w.cell? ⟨lb, r.length * 4, none⟩ = some (I e.1.what) ∧ w.cell? ⟨lb, r.length * 4 + 1, none⟩ = some (I e.1.n) ∧
        w.cell? ⟨lb, r.length * 4 + 2, none⟩ = some (I e.1.v) ∧ w.cell? ⟨lb, r.length * 4 + 3, none⟩ = some e.2 := by
  have hh : L.hist v = (L.past[v]).2 := by simp [Lay.hist, hv]
  rw [hh]
  obtain ⟨ao, cap, h1, h2, h3, h4, h5⟩ := ownsRow_cells (h.hist v hv)
  refine ⟨ao, cap, h1, h2, h3, fun a e r hl => ?_⟩
  have key : ∀ j, j < 4 → (histCells (L.past[v]).2)[r.length * 4 + j]? = (evCells e)[j]? := fun j hj => by rw [hl]; exact histCells_at a e r j hj
  obtain ⟨g, rfl, _, c0⟩ := h5 (r.length * 4 + 0) (I e.1.what) (by rw [key 0 (by omega)]; rfl)
  obtain ⟨g1, e1, _, c1⟩ := h5 (r.length * 4 + 1) (I e.1.n) (by rw [key 1 (by omega)]; rfl)
  obtain ⟨g2, e2, _, c2⟩ := h5 (r.length * 4 + 2) (I e.1.v) (by rw [key 2 (by omega)]; rfl)
  obtain ⟨g3, e3, _, c3⟩ := h5 (r.length * 4 + 3) e.2 (by rw [key 3 (by omega)]; rfl)
  simp at e1 e2 e3; subst e1 e2 e3
  exact ⟨g, rfl, c0, c1, c2, c3⟩

theorem RefRep.items_at {w : World} {B : Nat} {L : Lay} (h : RefRep w B L) {v : Nat} (hv : v < L.past.length) {e : Ev × Value} (he : e ∈ L.hist v) :
    ∃ ao cap, e.2 = .slice ao e.1.items.length cap ∧ e.1.items.length ≤ cap ∧ e.1.items.length ≤ maxLen ∧
      ∀ i, (hi : i < e.1.items.length) → ∃ g, ao = some ⟨g, 0, none⟩ ∧ w.cell? ⟨g, i, none⟩ = some (I e.1.items[i]) := by
  have hh : L.hist v = (L.past[v]).2 := by simp [Lay.hist, hv]
  rw [hh] at he
  obtain ⟨ao, cap, h1, h2, h3, h4, h5⟩ := ownsRow_cells (h.items v hv e he)
  refine ⟨ao, cap, h1, h2, h3, fun i hi => ?_⟩
  obtain ⟨g, e, _, c⟩ := h5 i (I e.1.items[i]) (by simp [hi])
  exact ⟨g, e, c⟩

theorem RefRep.proc_at {w : World} {B : Nat} {L : Lay} (h : RefRep w B L) :
    ∃ ao cap, L.pv = .slice ao L.procs.length cap ∧ L.procs.length ≤ cap ∧ L.procs.length ≤ maxLen ∧ cap ≤ maxLen ∧
      ∀ i, (hi : i < L.procs.length) → ∃ g, ao = some ⟨g, 0, none⟩ ∧ w.cell? ⟨g, i, none⟩ = some (.pointer (some ⟨(L.procs[i]).1, 0, none⟩)) := by
  obtain ⟨ao, cap, h1, h2, h3, h4, h5⟩ := ownsRow_cells h.prow
  refine ⟨ao, cap, h1, h2, h3, h4, fun i hi => ?_⟩
  obtain ⟨g, e, _, c⟩ := h5 i (.pointer (some ⟨(L.procs[i]).1, 0, none⟩)) (by simp [hi])
  exact ⟨g, e, c⟩

theorem RefRep.size {w : World} {B : Nat} {L : Lay} (h : RefRep w B L) : L.tb < w.heap.size := by
  have := h.tree
  exact (Array.getElem?_eq_some_iff.1 this).1

/-- What only grows keeps a tree. -/
theorem ownsRow_below {w w' : World} {C : Nat} {base : Nat} {e : TypeId} {size : Nat} {v : Value} {n : Nat} {xs : List Value} (h : w.ownsRow base e size v n xs) (hb : Below C w w') (hC : w.heap.size ≤ C) : w'.ownsRow base e size v n xs := by
  obtain ⟨h1, h2⟩ := h
  refine ⟨h1, ?_⟩
  rcases h2 with h2 | ⟨g, cap, cur, hv, hg, hh, r⟩
  · exact Or.inl h2
  · have : g < w.heap.size := (Array.getElem?_eq_some_iff.1 hh).1
    exact Or.inr ⟨g, cap, cur, hv, hg, by rw [hb.block g (by omega)]; exact hh, r⟩

theorem RefRep.below {w w' : World} {B : Nat} {L : Lay} (h : RefRep w B L) (hb : Below w.heap.size w w') : RefRep w' B L where
  tree := by rw [hb.block _ h.size]; exact h.tree
  treeB := h.treeB
  prow := ownsRow_below h.prow hb (Nat.le_refl _)
  pblk := fun i hi => by
    obtain ⟨h1, h2⟩ := h.pblk i hi
    have : (L.procs[i]).1 < w.heap.size := (Array.getElem?_eq_some_iff.1 h1).1
    exact ⟨by rw [hb.block _ this]; exact h1, h2⟩
  pnd := h.pnd
  hrow := ownsRow_below h.hrow hb (Nat.le_refl _)
  hist := fun i hi => ownsRow_below (h.hist i hi) hb (Nat.le_refl _)
  items := fun i hi y hy => ownsRow_below (h.items i hi y hy) hb (Nat.le_refl _)
  hnd := h.hnd

theorem sh_small (k : Nat) (hk : k ≤ 5) : wrap64 (2 * 2 ^ k) = ((2 ^ (k + 1) : Nat) : Int) := by
  have : k = 0 ∨ k = 1 ∨ k = 2 ∨ k = 3 ∨ k = 4 ∨ k = 5 := by omega
  rcases this with rfl | rfl | rfl | rfl | rfl | rfl <;> decide +kernel

theorem log2_le5 (v : Nat) (hv : v < 64) : Nat.log2 v ≤ 5 := by
  by_cases h0 : v = 0
  · subst h0; decide
  · have := (Nat.log2_lt (n := v) (k := 6) h0).2 (by omega)
    omega

set_option maxHeartbeats 400000 in
theorem depth_c (v : Nat) (hv : v < 64) (w : World) :
    Calls Tryz.prog 17 #[I v] w fun e w' => e = .returned (I (Nat.log2 v)) ∧ w' = w := by
  have h5 := log2_le5 v hv
  go_enter Tryz.func17, Tryz.ntmps17
  go_wp2
  go_loop [3] (fun d => ∃ k : Nat, k ≤ Nat.log2 v ∧ d = .int .i64 k) (fun d => 64 - (intOf d).toNat)
  case atStart => exact ⟨0, by omega, rfl⟩
  case round =>
    obtain ⟨k, hk, rfl⟩ := hrel
    obtain ⟨p, hp⟩ : ∃ p : Nat, p = 2 ^ (k + 1) := ⟨_, rfl⟩
    have hs := sh_small k (by omega)
    rw [← hp] at hs
    have HP : Hid (p = 2 ^ (k + 1)) := hp
    clear hp
    go_wp2
    · go_round
      case rel =>
        refine ⟨k + 1, ?_, by go_num⟩
        have h : p ≤ v := by omega
        have hp := HP.out
        by_cases h0 : v = 0
        · subst h0; have : 0 < 2 ^ (k + 1) := Nat.two_pow_pos _; omega
        · exact (Nat.le_log2 h0).2 (by omega)
      case measure => simp [intOf]; omega
    · go_ret
      have h : v < p := by omega
      have hp := HP.out
      have e : Nat.log2 v = k := by
        by_cases h0 : v = 0
        · subst h0; have h00 : Nat.log2 0 = 0 := by decide
          omega
        · have := (Nat.log2_lt h0 (k := k + 1)).2 (by omega)
          omega
      rw [e]; exact ⟨rfl, rfl⟩

/-- Rank of node v, by its halves. -/
def rankTo : Nat → Nat → Nat
  | 0, _ => 0
  | f + 1, v => if v ≤ 1 then 0 else rankTo f (v / 2) + v % 2 * 2 ^ Nat.log2 (v / 2)
def rank (v : Nat) : Nat := rankTo 6 v

theorem sh_one (k : Nat) (hk : k ≤ 5) : wrap64 (2 ^ k) = ((2 ^ k : Nat) : Int) := by
  have : k = 0 ∨ k = 1 ∨ k = 2 ∨ k = 3 ∨ k = 4 ∨ k = 5 := by omega
  rcases this with rfl | rfl | rfl | rfl | rfl | rfl <;> decide +kernel

theorem rankTo_le (f v : Nat) : rankTo f v ≤ v := by
  induction f generalizing v with
  | zero => simp [rankTo]
  | succ f ih =>
    unfold rankTo
    split
    · omega
    · have h1 := ih (v / 2)
      have h2 : 2 ^ Nat.log2 (v / 2) ≤ v / 2 := Nat.log2_self_le (by omega)
      have h3 : v % 2 < 2 := Nat.mod_lt _ (by omega)
      have h4 : v % 2 = 0 ∨ v % 2 = 1 := by omega
      rcases h4 with h4 | h4 <;> rw [h4] <;> omega

set_option maxHeartbeats 400000 in
theorem rankTo_c (f : Nat) (hf : f ≤ 6) : ∀ (v : Nat), v < 2 ^ f → ∀ w : World,
    Calls Tryz.prog 81 #[I v] w fun e w' => e = .returned (I (rankTo f v)) ∧ w' = w := by
  induction f with
  | zero =>
    intro v hv w
    have : v = 0 := by simpa using hv
    subst this
    go_enter Tryz.func81, Tryz.ntmps81
    go_wp2_with fail
    go_ret
    exact ⟨rfl, rfl⟩
  | succ f ih =>
    intro v hv w
    have hv64 : v < 64 := by
      have : 2 ^ (f + 1) ≤ 2 ^ 6 := Nat.pow_le_pow_right (by omega) hf
      omega
    have IH := ih (by omega)
    clear ih
    by_cases h1 : v ≤ 1
    · go_enter Tryz.func81, Tryz.ntmps81
      go_wp2_with fail
      go_ret
      exact ⟨by simp [rankTo, h1], rfl⟩
    · have HI : Hid (∀ (v : Nat), v < 2 ^ f → ∀ w : World, Calls Tryz.prog 81 #[I v] w fun e w' => e = .returned (I (rankTo f v)) ∧ w' = w) := IH
      clear IH
      have hv2 : v / 2 < 2 ^ f := by rw [Nat.pow_succ] at hv; omega
      have hle := rankTo_le f (v / 2)
      have hl5 := log2_le5 (v / 2) (by omega)
      have HE : Hid (rankTo (f + 1) v = rankTo f (v / 2) + v % 2 * 2 ^ Nat.log2 (v / 2)) := by show rankTo (f + 1) v = _; simp [rankTo, h1]
      have HL : Hid (2 ^ Nat.log2 (v / 2) ≤ v / 2) := Nat.log2_self_le (by omega)
      clear hv
      generalize rankTo (f + 1) v = R at *
      go_enter Tryz.func81, Tryz.ntmps81
      go_wp2_with fail
      rw [show (v : Int) / 2 = ((v / 2 : Nat) : Int) from by omega]
      refine (HI.out (v / 2) hv2 _).mono ?_
      rintro e w' ⟨rfl, rfl⟩
      go_wp2_with fail
      rw [show (v : Int) / 2 = ((v / 2 : Nat) : Int) from by omega]
      refine (depth_c (v / 2) (by omega) _).mono ?_
      rintro e w' ⟨rfl, rfl⟩
      have hs := sh_one _ hl5
      generalize 2 ^ Nat.log2 (v / 2) = P at *
      go_wp2_with fail
      go_ret
      refine ⟨?_, rfl⟩
      have hE := HE.out
      have hL := HL.out
      subst hE
      have h4 : v % 2 = 0 ∨ v % 2 = 1 := by omega
      rcases h4 with h4 | h4
      · rw [show (v : Int) % 2 = 0 from by omega, h4, Int.zero_mul, Go.IntWalk.wrap64_in 0 (by omega), Go.IntWalk.wrap64_in _ (by omega)]; simp
      · rw [show (v : Int) % 2 = 1 from by omega, h4, Int.one_mul, Go.IntWalk.wrap64_in P (by omega), Go.IntWalk.wrap64_in _ (by omega)]; simp

theorem rank_c (v : Nat) (hv : v < 64) (w : World) :
    Calls Tryz.prog 81 #[I v] w fun e w' => e = .returned (I (rank v)) ∧ w' = w := rankTo_c 6 (by omega) v (by omega) w

/- What is told out of what has happened at a node (the newest first). -/
def sinceH : Hist → Int
  | [] => -1
  | e :: r => if e.1.what ≤ 3 then r.length else sinceH r
def formH : Hist → Int
  | [] => 3
  | e :: r => if e.1.what ≤ 3 then e.1.what else formH r
def fromH : Hist → Ev × Value
  | [] => (⟨3, 0, 0, []⟩, .slice none 0 0)
  | e :: r => if e.1.what ≤ 3 then e else fromH r
def manyH (what n : Int) : Hist → Nat
  | [] => 0
  | e :: r => if 3 < e.1.what then (if e.1.what = what ∧ (n < 0 ∨ e.1.n = n) then 1 else 0) + manyH what n r else 0
def widthH : Hist → Int
  | [] => 1
  | e :: r => if 3 < e.1.what then (if e.1.what = 5 then e.1.n else widthH r) else 1

set_option maxHeartbeats 400000 in
theorem since_c {w : World} {B : Nat} {L : Lay} (h : RefRep w B L) (v : Nat) (hv : v < L.past.length) :
    Calls Tryz.prog 76 #[.pointer (some ⟨L.tb, 0, none⟩), I v] w fun e w' => e = .returned (I (sinceH (L.hist v))) ∧ w' = w := by
  have h1 := h.hv_cell
  obtain ⟨hb, cap, e1, c1, c2, h2⟩ := h.past_at hv
  obtain ⟨ao, lc, e2, c3, c4, h3⟩ := h.hist_at hv
  rw [e1] at h1
  rw [e2] at h2
  clear e1 e2
  generalize L.hist v = l at *
  generalize L.past.length = pl at *
  generalize L.tb = tb at *
  unfold maxLen at c2 c4
  have H3 := h3
  clear h h3
  go_enter Tryz.func76, Tryz.ntmps76
  go_wp2
  go_loop [6] (fun i => ∃ a r, l = a ++ r ∧ sinceH l = sinceH r ∧ i = .int .i64 (r.length - 1)) (fun i => (intOf i + 1).toNat)
  case atStart => exact ⟨[], l, rfl, rfl, rfl⟩
  case round =>
    obtain ⟨a, r, rfl, hs, rfl⟩ := hrel
    cases r with
    | nil =>
      go_wp2
      go_ret
      exact ⟨by simp_all [sinceH], rfl⟩
    | cons e r =>
      obtain ⟨lb, rfl, g0, g1, g2, g3⟩ := H3 a e r rfl
      clear g1 g2 g3 H3
      have hl : r.length + 1 ≤ (a ++ e :: r).length := by simp
      have HS : Hid (sinceH (a ++ e :: r) = sinceH (e :: r)) := hs
      clear hs
      rw [show (((e :: r).length : Nat) : Int) - 1 = r.length from by simp]
      generalize (a ++ e :: r).length = ll at *
      by_cases hw : e.1.what ≤ 3
      · go_wp2
        go_ret
        exact ⟨by rw [HS.out]; simp [sinceH, hw], rfl⟩
      · have HR : Hid (sinceH (e :: r) = sinceH r) := by show sinceH (e :: r) = sinceH r; simp [sinceH, hw]
        go_wp2
        go_round
        case rel => exact ⟨a ++ [e], r, by simp, by rw [HS.out, HR.out], rfl⟩
        case measure => simp [intOf]

theorem sinceH_split (l : Hist) : (sinceH l = -1 ∧ formH l = 3 ∧ fromH l = (⟨3, 0, 0, []⟩, .slice none 0 0)) ∨ ∃ a e r, l = a ++ e :: r ∧ sinceH l = r.length ∧ formH l = e.1.what ∧ fromH l = e := by
  induction l with
  | nil => exact Or.inl ⟨rfl, rfl, rfl⟩
  | cons x l ih =>
    by_cases hw : x.1.what ≤ 3
    · exact Or.inr ⟨[], x, l, rfl, by simp [sinceH, hw], by simp [formH, hw], by simp [fromH, hw]⟩
    · rcases ih with ⟨h1, h2, h3⟩ | ⟨a, e, r, h1, h2, h3, h4⟩
      · exact Or.inl ⟨by simp [sinceH, hw, h1], by simp [formH, hw, h2], by simp [fromH, hw, h3]⟩
      · exact Or.inr ⟨x :: a, e, r, by simp [h1], by simp [sinceH, hw, h2], by simp [formH, hw, h3], by simp [fromH, hw, h4]⟩

set_option maxHeartbeats 400000 in
theorem form_c {w : World} {B : Nat} {L : Lay} (h : RefRep w B L) (v : Nat) (hv : v < L.past.length) :
    Calls Tryz.prog 51 #[.pointer (some ⟨L.tb, 0, none⟩), I v] w fun e w' => e = .returned (I (formH (L.hist v))) ∧ w' = w := by
  have h1 := h.hv_cell
  obtain ⟨hb, cap, e1, c1, c2, h2⟩ := h.past_at hv
  obtain ⟨ao, lc, e2, c3, c4, h3⟩ := h.hist_at hv
  have hc := since_c h v hv
  rw [e1] at h1
  rw [e2] at h2
  clear e1 e2
  generalize L.hist v = l at *
  generalize L.past.length = pl at *
  generalize L.tb = tb at *
  unfold maxLen at c2 c4
  clear h
  rcases sinceH_split l with ⟨hs, hf, _⟩ | ⟨a, e, r, rfl, hs, hf, _⟩
  · rw [hs] at hc
    rw [hf]
    clear h3 hs hf
    go_enter Tryz.func51, Tryz.ntmps51
    go_wp2_with fail
    refine hc.mono ?_
    rintro e w' ⟨rfl, rfl⟩
    go_wp2
    go_ret
    exact ⟨rfl, rfl⟩
  · obtain ⟨lb, rfl, g0, g1, g2, g3⟩ := h3 a e r rfl
    rw [hs] at hc
    rw [hf]
    have hl : r.length + 1 ≤ (a ++ e :: r).length := by simp
    clear g1 g2 g3 h3 hs hf
    generalize (a ++ e :: r).length = ll at *
    go_enter Tryz.func51, Tryz.ntmps51
    go_wp2_with fail
    refine hc.mono ?_
    rintro e w' ⟨rfl, rfl⟩
    go_wp2
    go_ret
    exact ⟨rfl, rfl⟩

set_option maxHeartbeats 1000000 in
theorem many_c {w : World} {B : Nat} {L : Lay} (h : RefRep w B L) (v : Nat) (hv : v < L.past.length) (what n : Int) :
    Calls Tryz.prog 78 #[.pointer (some ⟨L.tb, 0, none⟩), I v, I what, I n] w fun e w' => e = .returned (I (manyH what n (L.hist v))) ∧ w' = w := by
  have h1 := h.hv_cell
  obtain ⟨hb, cap, e1, c1, c2, h2⟩ := h.past_at hv
  obtain ⟨ao, lc, e2, c3, c4, h3⟩ := h.hist_at hv
  rw [e1] at h1
  rw [e2] at h2
  clear e1 e2
  generalize L.hist v = l at *
  generalize L.past.length = pl at *
  generalize L.tb = tb at *
  unfold maxLen at c2 c4
  have H3 := h3
  clear h h3
  go_enter Tryz.func78, Tryz.ntmps78
  go_wp2
  go_loop [10, 11] (fun k i => ∃ (a r : Hist) (m : Nat), l = a ++ r ∧ m + r.length ≤ l.length ∧ manyH what n l = m + manyH what n r ∧ k = .int .i64 m ∧ i = .int .i64 (r.length - 1)) (fun _ i => (intOf i + 1).toNat)
  case atStart => exact ⟨[], l, 0, rfl, by simp, by simp, rfl, rfl⟩
  case round =>
    obtain ⟨a, r, m, rfl, hm, hs, rfl, rfl⟩ := hrel
    cases r with
    | nil =>
      go_wp2
      go_ret
      exact ⟨by simp_all [manyH], rfl⟩
    | cons e r =>
      obtain ⟨lb, rfl, g0, g1, g2, g3⟩ := H3 a e r rfl
      clear g2 g3 H3
      have hl : r.length + 1 ≤ (a ++ e :: r).length := by simp
      have HS : Hid (manyH what n (a ++ e :: r) = m + manyH what n (e :: r)) := hs
      clear hs
      rw [show (((e :: r).length : Nat) : Int) - 1 = r.length from by simp]
      have hm' : m + (r.length + 1) ≤ (a ++ e :: r).length := by simpa using hm
      clear hm
      generalize hll : (a ++ e :: r).length = ll at *
      have HLL : Hid ((a ++ e :: r).length = ll) := hll
      clear hll
      by_cases hw : 3 < e.1.what
      · have HR : Hid (manyH what n (e :: r) = (if e.1.what = what ∧ (n < 0 ∨ e.1.n = n) then 1 else 0) + manyH what n r) := by
          show manyH what n (e :: r) = _; simp [manyH, hw]
        by_cases hwh : e.1.what = what
        · have b1 : (e.1.what == what) = true := by simp [hwh]
          have HW := hwh
          by_cases hn : n < 0
          · have HC : Hid (manyH what n (a ++ e :: r) = (m + 1 : Nat) + manyH what n r) := by show _ = _; rw [HS.out, HR.out, if_pos ⟨hwh, Or.inl hn⟩]; omega
            clear hwh HW
            go_wp2
            go_round
            case rel => exact ⟨a ++ [e], r, m + 1, by simp, by omega, HC.out, by go_num, by go_num⟩
            case measure => simp [intOf]
          · by_cases hen : e.1.n = n
            · have b2 : (e.1.n == n) = true := by simp [hen]
              have HC : Hid (manyH what n (a ++ e :: r) = (m + 1 : Nat) + manyH what n r) := by show _ = _; rw [HS.out, HR.out, if_pos ⟨hwh, Or.inr hen⟩]; omega
              clear hwh HW hen
              go_wp2
              go_round
              case rel => exact ⟨a ++ [e], r, m + 1, by simp, by omega, HC.out, by go_num, by go_num⟩
              case measure => simp [intOf]
            · have b2 : (e.1.n == n) = false := by simp [hen]
              have HC : Hid (manyH what n (a ++ e :: r) = m + manyH what n r) := by show _ = _; rw [HS.out, HR.out, if_neg (by intro hh; rcases hh.2 with h' | h' <;> omega)]; omega
              clear hwh HW hen
              go_wp2
              go_round
              case rel => exact ⟨a ++ [e], r, m, by simp, by omega, HC.out, by go_num, by go_num⟩
              case measure => simp [intOf]
        · have b1 : (e.1.what == what) = false := by simp [hwh]
          have HC : Hid (manyH what n (a ++ e :: r) = m + manyH what n r) := by show _ = _; rw [HS.out, HR.out, if_neg (by intro hh; exact hwh hh.1)]; omega
          clear hwh
          go_wp2
          go_round
          case rel => exact ⟨a ++ [e], r, m, by simp, by omega, HC.out, by go_num, by go_num⟩
          case measure => simp [intOf]
      · have hd : decide (3 < e.1.what) = false := by simpa using hw
        have HC : Hid (manyH what n (a ++ e :: r) = m) := by show _ = _; rw [HS.out]; simp [manyH, hw]
        go_wp2
        go_ret
        exact ⟨by rw [HC.out]; rfl, rfl⟩

set_option maxHeartbeats 1000000 in
theorem width_c {w : World} {B : Nat} {L : Lay} (h : RefRep w B L) (v : Nat) (hv : v < L.past.length) :
    Calls Tryz.prog 87 #[.pointer (some ⟨L.tb, 0, none⟩), I v] w fun e w' => e = .returned (I (widthH (L.hist v))) ∧ w' = w := by
  have h1 := h.hv_cell
  obtain ⟨hb, cap, e1, c1, c2, h2⟩ := h.past_at hv
  obtain ⟨ao, lc, e2, c3, c4, h3⟩ := h.hist_at hv
  rw [e1] at h1
  rw [e2] at h2
  clear e1 e2
  generalize L.hist v = l at *
  generalize L.past.length = pl at *
  generalize L.tb = tb at *
  unfold maxLen at c2 c4
  have H3 := h3
  clear h h3
  go_enter Tryz.func87, Tryz.ntmps87
  go_wp2
  go_loop [6] (fun i => ∃ (a r : Hist), l = a ++ r ∧ widthH l = widthH r ∧ i = .int .i64 (r.length - 1)) (fun i => (intOf i + 1).toNat)
  case atStart => exact ⟨[], l, rfl, rfl, rfl⟩
  case round =>
    obtain ⟨a, r, rfl, hs, rfl⟩ := hrel
    cases r with
    | nil =>
      go_wp2
      go_ret
      exact ⟨by simp_all [widthH], rfl⟩
    | cons e r =>
      obtain ⟨lb, rfl, g0, g1, g2, g3⟩ := H3 a e r rfl
      clear g2 g3 H3
      have hl : r.length + 1 ≤ (a ++ e :: r).length := by simp
      have HS : Hid (widthH (a ++ e :: r) = widthH (e :: r)) := hs
      clear hs
      rw [show (((e :: r).length : Nat) : Int) - 1 = r.length from by simp]
      generalize (a ++ e :: r).length = ll at *
      by_cases hw : 3 < e.1.what
      · by_cases h5 : e.1.what = 5
        · have b1 : (e.1.what == 5) = true := by simp [h5]
          have HC : Hid (widthH (a ++ e :: r) = e.1.n) := by show _ = _; rw [HS.out]; simp [widthH, h5]
          clear h5
          go_wp2
          go_ret
          exact ⟨by rw [HC.out]; rfl, rfl⟩
        · have b1 : (e.1.what == 5) = false := by simp [h5]
          have HC : Hid (widthH (a ++ e :: r) = widthH r) := by show _ = _; rw [HS.out]; simp [widthH, h5, hw]
          clear h5
          go_wp2
          go_round
          case rel => exact ⟨a ++ [e], r, by simp, HC.out, by go_num⟩
          case measure => simp [intOf]
      · have hd : decide (3 < e.1.what) = false := by simpa using hw
        have HC : Hid (widthH (a ++ e :: r) = 1) := by show _ = _; rw [HS.out]; simp [widthH, hw]
        go_wp2
        go_ret
        exact ⟨by rw [HC.out]; rfl, rfl⟩

set_option maxHeartbeats 1000000 in
theorem from_c {w : World} {B : Nat} {L : Lay} (h : RefRep w B L) (v : Nat) (hv : v < L.past.length) :
    Calls Tryz.prog 77 #[.pointer (some ⟨L.tb, 0, none⟩), I v] w fun e w' => e = .returned (.agg #[I (fromH (L.hist v)).1.what, I (fromH (L.hist v)).1.n, I (fromH (L.hist v)).1.v, (fromH (L.hist v)).2]) ∧ Below w.heap.size w w' := by
  have h1 := h.hv_cell
  obtain ⟨hb, cap, e1, c1, c2, h2⟩ := h.past_at hv
  obtain ⟨ao, lc, e2, c3, c4, h3⟩ := h.hist_at hv
  rw [e1] at h1
  rw [e2] at h2
  clear e1 e2
  have hsz : L.tb < w.heap.size := h.size
  have hc := fun o => since_c (h.below ((Below.refl _ w).alloc (Nat.le_refl _) o)) v hv
  have h4 : ∀ e ∈ L.hist v, ∃ ao n cap, e.2 = .slice ao n cap := fun e he => by
    obtain ⟨ao, cap, h1, _⟩ := h.items_at hv he
    exact ⟨ao, _, cap, h1⟩
  generalize L.hist v = l at *
  generalize L.past.length = pl at *
  generalize L.tb = tb at *
  unfold maxLen at c2 c4
  clear h
  rcases sinceH_split l with ⟨hs, _, hf⟩ | ⟨a, e, r, rfl, hs, _, hf⟩
  · rw [hs] at hc
    rw [hf]
    clear hs hf h3 h4
    have l1 := cell_lt h2
    go_enter Tryz.func77, Tryz.ntmps77
    go_wp2_with fail
    refine (hc _).mono ?_
    rintro e w' ⟨rfl, rfl⟩
    go_wp2
    exact bodyPost_ret (v := .agg #[I 3, I 0, I 0, .slice none 0 0]) (by simp [results, Tryz.results77, go_sem]) rfl ⟨rfl, (Below.refl _ _).alloc (Nat.le_refl _) _⟩
  · obtain ⟨lb, rfl, g0, g1, g2, g3⟩ := h3 a e r rfl
    rw [hs] at hc
    rw [hf]
    have hl : r.length + 1 ≤ (a ++ e :: r).length := by simp
    clear h3 hs hf
    generalize (a ++ e :: r).length = ll at *
    have l1 := cell_lt h2
    have l2 := cell_lt g0
    obtain ⟨io, il, ic, h5⟩ := h4 e (by simp)
    rw [h5] at g3 ⊢
    clear h4 h5
    go_enter Tryz.func77, Tryz.ntmps77
    go_wp2_with fail
    refine (hc _).mono ?_
    rintro x w' ⟨rfl, rfl⟩
    go_wp2
    exact bodyPost_ret (v := .agg #[I e.1.what, I e.1.n, I e.1.v, .slice io il ic]) (by simp [results, Tryz.results77, go_sem]) rfl ⟨rfl, (Below.refl _ _).alloc (Nat.le_refl _) _⟩

set_option maxHeartbeats 1000000 in
theorem toggle_c {w : World} {B : Nat} {L : Lay} (h : RefRep w B L) (v : Nat) (hv : v < L.past.length) (h0 : 0 ≤ (fromH (L.hist v)).1.n) (h9 : (fromH (L.hist v)).1.n ≤ 1000000000000000000) (hk : manyH 4 (-1) (L.hist v) ≤ 1000000000000000000) :
    Calls Tryz.prog 56 #[.pointer (some ⟨L.tb, 0, none⟩), I v] w fun e w' => e = .returned (I (((fromH (L.hist v)).1.n + manyH 4 (-1) (L.hist v)) % 2)) ∧ Below w.heap.size w w' := by
  have hc := from_c h v hv
  have hm := fun w' (hb : Below w.heap.size w w') => many_c (h.below hb) v hv 4 (-1)
  obtain ⟨io, il, ic, h5⟩ : ∃ ao n cap, (fromH (L.hist v)).2 = .slice ao n cap := by
    rcases sinceH_split (L.hist v) with ⟨_, _, hf⟩ | ⟨a, e, r, hl, _, _, hf⟩
    · rw [hf]; exact ⟨_, _, _, rfl⟩
    · rw [hf]
      obtain ⟨ao, cap, h1, _⟩ := h.items_at hv (e := e) (by rw [hl]; simp)
      exact ⟨ao, _, cap, h1⟩
  rw [h5] at hc
  clear h h5
  generalize fromH (L.hist v) = f at *
  generalize manyH 4 (-1) (L.hist v) = m at *
  generalize L.tb = tb at *
  go_enter Tryz.func56, Tryz.ntmps56
  go_wp2_with fail
  refine hc.mono ?_
  rintro x w1 ⟨rfl, hb1⟩
  go_wp2_with fail
  refine (hm _ (hb1.alloc hb1.size _)).mono ?_
  rintro x w2 ⟨rfl, rfl⟩
  go_wp2
  go_ret
  exact ⟨rfl, hb1.alloc hb1.size _⟩

theorem fromH_slice {w : World} {B : Nat} {L : Lay} (h : RefRep w B L) (v : Nat) (hv : v < L.past.length) : ∃ ao cap, (fromH (L.hist v)).2 = .slice ao (fromH (L.hist v)).1.items.length cap ∧ (fromH (L.hist v)).1.items.length ≤ cap ∧ (fromH (L.hist v)).1.items.length ≤ maxLen ∧
      ∀ i, (hi : i < (fromH (L.hist v)).1.items.length) → ∃ g, ao = some ⟨g, 0, none⟩ ∧ w.cell? ⟨g, i, none⟩ = some (I (fromH (L.hist v)).1.items[i]) := by
  rcases sinceH_split (L.hist v) with ⟨_, _, hf⟩ | ⟨a, e, r, hl, _, _, hf⟩
  · rw [hf]; exact ⟨none, 0, rfl, Nat.zero_le _, Nat.zero_le _, fun i hi => absurd hi (by simp)⟩
  · rw [hf]
    exact h.items_at hv (e := e) (by rw [hl]; simp)

set_option maxHeartbeats 1000000 in
theorem puts_c {w : World} {B : Nat} {L : Lay} (h : RefRep w B L) (v : Nat) (hv : v < L.past.length) (h0 : 0 ≤ (fromH (L.hist v)).1.n) (h9 : (fromH (L.hist v)).1.n ≤ 1000000000000000000) (hk : manyH 6 (-1) (L.hist v) ≤ 1000000000000000000) :
    Calls Tryz.prog 52 #[.pointer (some ⟨L.tb, 0, none⟩), I v] w fun e w' => e = .returned (I ((fromH (L.hist v)).1.n + manyH 6 (-1) (L.hist v))) ∧ Below w.heap.size w w' := by
  have hc := from_c h v hv
  have hm := fun w' (hb : Below w.heap.size w w') => many_c (h.below hb) v hv 6 (-1)
  obtain ⟨io, ic, h5, _⟩ := fromH_slice h v hv
  rw [h5] at hc
  clear h h5
  generalize fromH (L.hist v) = f at *
  generalize manyH 6 (-1) (L.hist v) = m at *
  generalize L.tb = tb at *
  go_enter Tryz.func52, Tryz.ntmps52
  go_wp2_with fail
  refine hc.mono ?_
  rintro x w1 ⟨rfl, hb1⟩
  go_wp2_with fail
  refine (hm _ (hb1.alloc hb1.size _)).mono ?_
  rintro x w2 ⟨rfl, rfl⟩
  go_wp2
  go_ret
  exact ⟨rfl, hb1.alloc hb1.size _⟩

set_option maxHeartbeats 1000000 in
theorem gets_c {w : World} {B : Nat} {L : Lay} (h : RefRep w B L) (v : Nat) (hv : v < L.past.length) :
    Calls Tryz.prog 53 #[.pointer (some ⟨L.tb, 0, none⟩), I v] w fun e w' => e = .returned (I (manyH 7 (-1) (L.hist v))) ∧ w' = w := by
  have hm := many_c h v hv 7 (-1)
  clear h
  generalize manyH 7 (-1) (L.hist v) = m at *
  generalize L.tb = tb at *
  go_enter Tryz.func53, Tryz.ntmps53
  go_wp2_with fail
  refine hm.mono ?_
  rintro x w1 ⟨rfl, rfl⟩
  go_wp2
  go_ret
  exact ⟨rfl, rfl⟩

def takenH (l : Hist) (t : Int) : Bool := decide (0 ≤ t) && decide (0 < manyH 9 t l)

set_option maxHeartbeats 1000000 in
theorem taken_c {w : World} {B : Nat} {L : Lay} (h : RefRep w B L) (v : Nat) (hv : v < L.past.length) (t : Int) :
    Calls Tryz.prog 82 #[.pointer (some ⟨L.tb, 0, none⟩), I v, I t] w fun e w' => e = .returned (.bool (takenH (L.hist v) t)) ∧ w' = w := by
  have hm := many_c h v hv 9 t
  clear h
  by_cases ht : t < 0
  · have ht' : ¬ 0 ≤ t := by omega
    have hf : takenH (L.hist v) t = false := by simp [takenH, ht']
    rw [hf]
    clear hf
    go_enter Tryz.func82, Tryz.ntmps82
    go_wp2
    go_ret
    exact ⟨rfl, rfl⟩
  · have ht' : 0 ≤ t := by omega
    have hf : takenH (L.hist v) t = decide (0 < manyH 9 t (L.hist v)) := by simp [takenH, ht']
    rw [hf]
    clear hf
    generalize manyH 9 t (L.hist v) = m at *
    generalize L.tb = tb at *
    go_enter Tryz.func82, Tryz.ntmps82
    go_wp2_with fail
    refine hm.mono ?_
    rintro x w1 ⟨rfl, rfl⟩
    go_wp2
    go_ret
    exact ⟨rfl, rfl⟩

def laidH (t : Int) : Hist → Option Int
  | [] => none
  | e :: r => if 3 < e.1.what then (if e.1.what = 8 ∧ e.1.n = t then some e.1.v else laidH t r) else none
def itemH (l : Hist) (t : Int) : Option Int :=
  if takenH l t = true ∨ t < 0 then none
  else if t < (fromH l).1.items.length then some ((fromH l).1.items.getD t.toNat 0)
  else laidH t l
def optV (x : Option Int) : Value := .tuple #[I (x.getD 0), .bool x.isSome]

theorem ret2_ok {a b : Value} {x : Option Int} (h1 : a = I (x.getD 0)) (h2 : b = .bool x.isSome) : Ending.returned (.tuple #[a, b]) = .returned (optV x) := by rw [h1, h2]; rfl

set_option maxHeartbeats 2000000 in
theorem item_c {w : World} {B : Nat} {L : Lay} (h : RefRep w B L) (v : Nat) (hv : v < L.past.length) (t : Int) :
    Calls Tryz.prog 79 #[.pointer (some ⟨L.tb, 0, none⟩), I v, I t] w fun e w' => e = .returned (optV (itemH (L.hist v) t)) ∧ Below w.heap.size w w' := by
  have ht := taken_c h v hv t
  have hc := from_c h v hv
  obtain ⟨io, ic, h5, h6, h7, h8⟩ := fromH_slice h v hv
  have h1 := h.hv_cell
  obtain ⟨hb, cap, e1, c1, c2, h2⟩ := h.past_at hv
  obtain ⟨ao, lc, e2, c3, c4, h3⟩ := h.hist_at hv
  rw [e1] at h1
  rw [e2] at h2
  rw [h5] at hc
  clear e1 e2 h5
  have l0 : L.tb < w.heap.size := h.size
  have l1 := cell_lt h2
  generalize L.hist v = l at *
  generalize L.past.length = pl at *
  generalize L.tb = tb at *
  unfold maxLen at c2 c4 h7
  clear h
  have HI : Hid (itemH l t = if takenH l t = true ∨ t < 0 then none else if t < (fromH l).1.items.length then some ((fromH l).1.items.getD t.toNat 0) else laidH t l) := rfl
  generalize itemH l t = X at *
  generalize hfl : fromH l = f at *
  clear hfl
  cases hT : takenH l t with
  | true =>
    rw [hT] at ht
    have hX : X = none := by rw [HI.out]; simp [hT]
    subst hX
    clear hc HI h3 h8 hT
    go_enter Tryz.func79, Tryz.ntmps79
    go_wp2_with fail
    refine ht.mono ?_
    rintro x w1 ⟨rfl, rfl⟩
    go_wp2
    go_ret2
    exact ⟨rfl, Below.refl _ _⟩
  | false =>
    rw [hT] at ht
    by_cases hneg : t < 0
    · have hX : X = none := by rw [HI.out]; simp [hneg]
      subst hX
      clear hc HI h3 h8 hT
      go_enter Tryz.func79, Tryz.ntmps79
      go_wp2_with fail
      refine ht.mono ?_
      rintro x w1 ⟨rfl, rfl⟩
      go_wp2
      go_ret2
      exact ⟨rfl, Below.refl _ _⟩
    · have hd : decide (t < 0) = false := by simpa using hneg
      by_cases hlt : t < f.1.items.length
      · have hX : X = some (f.1.items.getD t.toNat 0) := by rw [HI.out, if_neg (by simp [hT, hneg]), if_pos hlt]
        obtain ⟨n, rfl⟩ := Int.eq_ofNat_of_zero_le (by omega : 0 ≤ t)
        obtain ⟨g, rfl, g0⟩ := h8 n (by omega)
        have hX2 : X = some (f.1.items[n]'(by omega)) := by rw [hX]; simp [List.getD_eq_getElem?_getD]; rw [List.getElem?_eq_getElem (by omega)]; rfl
        subst hX2
        have l2 := cell_lt g0
        clear hX HI h3 h8 hT
        generalize f.1.items[n]'(by omega) = y at *
        generalize f.1.items.length = m at *
        go_enter Tryz.func79, Tryz.ntmps79
        go_wp2_with fail
        refine ht.mono ?_
        rintro x w1 ⟨rfl, rfl⟩
        go_wp2_with fail
        refine hc.mono ?_
        rintro x w1 ⟨rfl, hb1⟩
        have k1 := (hb1.cell (p := ⟨g, n, none⟩) l2).trans g0
        have l3 : g < w1.heap.size := Nat.lt_of_lt_of_le l2 hb1.size
        go_wp2
        go_ret2
        exact ⟨rfl, hb1.alloc hb1.size _⟩
      · have hd2 : decide (t < (f.1.items.length : Int)) = false := by simpa using hlt
        have hX : X = laidH t l := by rw [HI.out, if_neg (by simp [hT, hneg]), if_neg hlt]
        subst hX
        clear HI h8 hT
        generalize f.1.items.length = m at *
        go_enter Tryz.func79, Tryz.ntmps79
        go_wp2_with fail
        refine ht.mono ?_
        rintro x w1 ⟨rfl, rfl⟩
        go_wp2_with fail
        refine hc.mono ?_
        rintro x w1 ⟨rfl, hb1⟩
        have k1 := (hb1.cell (p := ⟨tb, 9, none⟩) l0).trans h1
        have k2 := (hb1.cell (p := ⟨hb, v, none⟩) l1).trans h2
        have l3 : tb < w1.heap.size := Nat.lt_of_lt_of_le l0 hb1.size
        have l4 : hb < w1.heap.size := Nat.lt_of_lt_of_le l1 hb1.size
        clear h1 h2 hc
        go_wp2
        go_loop [11] (fun i => ∃ (a r : Hist), l = a ++ r ∧ laidH t l = laidH t r ∧ i = .int .i64 (r.length - 1)) (fun i => (intOf i + 1).toNat)
        case atStart => exact ⟨[], l, rfl, rfl, rfl⟩
        case round =>
          obtain ⟨a, r, rfl, hs, rfl⟩ := hrel
          cases r with
          | nil =>
            go_wp2
            go_ret2
            exact ⟨ret2_ok (by simp_all [laidH]) (by simp_all [laidH]), hb1.alloc hb1.size _⟩
          | cons e r =>
            obtain ⟨lb, rfl, g0, g1, g2, g3⟩ := h3 a e r rfl
            clear g3 h3
            have l2 := cell_lt g0
            have l5 : lb < w1.heap.size := Nat.lt_of_lt_of_le l2 hb1.size
            have k3 := (hb1.cell (p := ⟨lb, r.length * 4, none⟩) l2).trans g0
            have k4 := (hb1.cell (p := ⟨lb, r.length * 4 + 1, none⟩) l2).trans g1
            have k5 := (hb1.cell (p := ⟨lb, r.length * 4 + 2, none⟩) l2).trans g2
            clear g0 g1 g2
            have hl : r.length + 1 ≤ (a ++ e :: r).length := by simp
            have HS : Hid (laidH t (a ++ e :: r) = laidH t (e :: r)) := hs
            clear hs
            rw [show (((e :: r).length : Nat) : Int) - 1 = r.length from by simp]
            generalize (a ++ e :: r).length = ll at *
            by_cases hw : 3 < e.1.what
            · by_cases h8 : e.1.what = 8
              · have b1 : (e.1.what == 8) = true := by simp [h8]
                by_cases hn : e.1.n = t
                · have b2 : (e.1.n == t) = true := by simp [hn]
                  have HC : Hid (laidH t (a ++ e :: r) = some e.1.v) := by show _ = _; rw [HS.out]; simp [laidH, h8, hn]
                  clear h8 hn
                  go_wp2
                  go_ret2
                  exact ⟨by rw [HC.out]; rfl, hb1.alloc hb1.size _⟩
                · have b2 : (e.1.n == t) = false := by simp [hn]
                  have HC : Hid (laidH t (a ++ e :: r) = laidH t r) := by show _ = _; rw [HS.out]; simp [laidH, h8, hn]
                  clear h8 hn
                  go_wp2
                  go_round
                  case rel => exact ⟨a ++ [e], r, by simp, HC.out, by go_num⟩
                  case measure => simp [intOf]
              · have b1 : (e.1.what == 8) = false := by simp [h8]
                have HC : Hid (laidH t (a ++ e :: r) = laidH t r) := by show _ = _; rw [HS.out]; simp [laidH, h8, hw]
                clear h8
                go_wp2
                go_round
                case rel => exact ⟨a ++ [e], r, by simp, HC.out, by go_num⟩
                case measure => simp [intOf]
            · have hdw : decide (3 < e.1.what) = false := by simpa using hw
              have HC : Hid (laidH t (a ++ e :: r) = none) := by show _ = _; rw [HS.out]; simp [laidH, hw]
              go_wp2
              go_ret2
              exact ⟨by rw [HC.out]; rfl, hb1.alloc hb1.size _⟩

theorem Tryz.info3 : (Tryz.prog.info? 3).map (fun i => (i.zero, i.size, i.bytes)) = some (some (.int .i64 0), 1, 8) := by kernel_rfl

def itemsTo (l : Hist) (k : Nat) : List Int := (List.range k).filterMap fun j : Nat => itemH l (j : Int)
def putsH (l : Hist) : Int := (fromH l).1.n + manyH 6 (-1) l
def itemsH (l : Hist) : List Int := itemsTo l (putsH l).toNat

theorem itemsTo_succ (l : Hist) (k : Nat) : itemsTo l (k + 1) = itemsTo l k ++ (itemH l (k : Int)).toList := by
  simp only [itemsTo, List.range_succ, List.filterMap_append]
  cases h : itemH l (k : Int) <;> simp [h]
theorem itemsTo_le (l : Hist) (k : Nat) : (itemsTo l k).length ≤ k := by
  have := List.length_filterMap_le (fun j : Nat => itemH l (j : Int)) (List.range k)
  simpa [itemsTo] using this

set_option maxHeartbeats 2000000 in
theorem items_c {w : World} {B : Nat} {L : Lay} (h : RefRep w B L) (v : Nat) (hv : v < L.past.length) (h0 : 0 ≤ (fromH (L.hist v)).1.n) (h9 : putsH (L.hist v) ≤ 1000000000000) :
    Calls Tryz.prog 54 #[.pointer (some ⟨L.tb, 0, none⟩), I v] w fun e w' => ∃ x, e = .returned x ∧ w'.ownsRow w.heap.size 3 1 x (itemsH (L.hist v)).length ((itemsH (L.hist v)).map I) ∧ Below w.heap.size w w' := by
  have hm0 : 0 ≤ ((manyH 6 (-1) (L.hist v) : Nat) : Int) := by omega
  have hp := puts_c h v hv h0 (by unfold putsH at h9; omega) (by unfold putsH at h9; omega)
  obtain ⟨m, hm⟩ : ∃ m : Nat, putsH (L.hist v) = m := ⟨(putsH (L.hist v)).toNat, by unfold putsH; omega⟩
  have hc := fun w' (hb : Below w.heap.size w w') t => item_c (h.below hb) v hv t
  have HI : itemsH (L.hist v) = itemsTo (L.hist v) m := by rw [itemsH, hm]; simp
  rw [show (fromH (L.hist v)).1.n + ((manyH 6 (-1) (L.hist v) : Nat) : Int) = m from hm] at hp
  rw [hm] at h9
  rw [HI]
  clear h h0 hm HI hm0
  have hsu := itemsTo_succ (L.hist v)
  have hle := itemsTo_le (L.hist v)
  generalize hit : itemH (L.hist v) = it at *
  generalize hto : itemsTo (L.hist v) = to at *
  clear hit hto
  have HC := hc
  replace HC : Hid (∀ w', Below w.heap.size w w' → ∀ t, Calls Tryz.prog 79 #[.pointer (some ⟨L.tb, 0, none⟩), I v, I t] w' fun e w'' => e = .returned (optV (it t)) ∧ Below w'.heap.size w' w'') := HC
  clear hc
  generalize L.tb = tb at *
  obtain ⟨i0, hi, hz0, hz1, hz2⟩ := info_parts Tryz.info3
  go_enter Tryz.func54, Tryz.ntmps54
  go_wp2_with fail
  refine hp.mono ?_
  rintro x w1 ⟨rfl, hb1⟩
  clear hp
  have HS : Hid (∀ k, to (k + 1) = to k ++ (it (k : Int)).toList) := hsu
  have HZ : Hid (to 0 = []) := List.eq_nil_of_length_eq_zero (by have := hle 0; omega)
  have HL : Hid (∀ k, (to k).length ≤ k) := hle
  clear hsu hle
  go_wp2_with fail
  go_loopw [5, 7] (fun x i wr => ∃ k : Nat, k ≤ m ∧ i = .int .i64 k ∧ wr.ownsRow w.heap.size 3 1 x (to k).length ((to k).map I) ∧ Below w.heap.size w wr) (fun _ i _ => m - (intOf i).toNat)
  case atStart => exact ⟨0, Nat.zero_le _, rfl, by rw [HZ.out]; exact World.ownsRow_nil _ _ _ _, hb1⟩
  case round =>
    obtain ⟨k, hk, rfl, hown, hbr⟩ := hrel
    by_cases hlt : k < m
    · have hkl := HL.out k
      go_wp2_with fail
      refine (HC.out _ hbr k).mono ?_
      rintro x w2 ⟨rfl, hb2⟩
      have hb3 : Below w.heap.size w w2 := hbr.trans (hb2.mono hbr.size)
      have hown2 := ownsRow_below hown hb2 (Nat.le_refl _)
      have hs := HS.out k
      cases hitk : it (k : Int) with
      | none =>
        rw [hitk] at hs
        simp only [Option.toList, List.append_nil] at hs
        have HE : Hid (to (k + 1) = to k) := hs
        clear hs hown hb2 HC HS hitk
        simp only [optV, Option.getD_none, Option.isSome_none]
        go_wp2
        go_roundw
        case rel => exact ⟨k + 1, by omega, by go_num, by rw [HE.out]; exact hown2, hb3⟩
        case measure => simp [intOf]; omega
      | some y =>
        rw [hitk] at hs
        simp only [Option.toList] at hs
        have HE : Hid (to (k + 1) = to k ++ [y]) := hs
        clear hs hown hb2 HC HS hitk
        simp only [optV, Option.getD_some, Option.isSome_some]
        have hsz := hb3.size
        go_wp2_with (at_builtin; refine wpList_append_own _ rfl _ _ 37 rfl w.heap.size 3 i0 (.int .i64 0) 1 8 Tryz.underlying37 hi hz0 hz1 hz2 rfl (by decide) _ _ _ rfl (hown2.alloc _) ⟨w2.heap.size, 0, none⟩ 1 1 [.int .i64 y] rfl rfl ?c1 ?c2 ?c3 ?c4 ?c5 ?_)
        case c1 => exact cell_one_new _ _ _
        case c2 => intro u hu; simp at hu; subst hu; rfl
        case c3 => unfold maxLen; omega
        case c4 => omega
        case c5 => simp; omega
        · intro x' w3 hown' hgrow _
          have hb4 : Below w.heap.size w w3 := (hb3.alloc hsz _).grown hgrow (by simp; omega) (by
            intro j hj
            exact (hown2.lt j hj).1)
          clear hgrow hown2
          go_wp2
          go_roundw
          case rel => exact ⟨k + 1, by omega, by go_num, by rw [HE.out]; simpa using hown', hb4⟩
          case measure => simp [intOf]; omega
    · have e : k = m := by omega
      subst e
      go_wp2
      go_ret
      exact ⟨_, rfl, hown, hbr⟩

/-- The cells of a process. -/
theorem RefRep.pcell {w : World} {B : Nat} {L : Lay} (h : RefRep w B L) {i : Nat} (hi : i < L.procs.length) (j : Nat) : w.cell? ⟨(L.procs[i]).1, j, none⟩ = (prCells (L.procs[i]).2)[j]? := block_cell (h.pblk i hi).1 j

def shutP (v : Int) (p : Pr) : Bool := decide (p.node = v) && (decide (p.phase = 16) || decide (p.phase = 17) || decide (p.phase = 18))
def shutL (v : Int) : List (Nat × Pr) → Bool
  | [] => false
  | p :: r => shutP v p.2 || shutL v r

theorem shutL_append (v : Int) (a b : List (Nat × Pr)) : shutL v (a ++ b) = (shutL v a || shutL v b) := by
  induction a with
  | nil => simp [shutL]
  | cons x a ih => simp [shutL, ih, Bool.or_assoc]

theorem take_succ_get {α : Type} (l : List α) (k : Nat) (h : k < l.length) : l.take (k + 1) = l.take k ++ [l[k]] := by
  rw [List.take_succ_eq_append_getElem h]

set_option maxHeartbeats 2000000 in
theorem shut_c {w : World} {B : Nat} {L : Lay} (h : RefRep w B L) (v : Int) :
    Calls Tryz.prog 80 #[.pointer (some ⟨L.tb, 0, none⟩), I v] w fun e w' => e = .returned (.bool (shutL v L.procs)) ∧ w' = w := by
  have h1 := h.pv_cell
  obtain ⟨ao, cap, e1, c1, c2, c3, h2⟩ := h.proc_at
  rw [e1] at h1
  clear e1
  have hp : ∀ i, (hi : i < L.procs.length) → w.cell? ⟨(L.procs[i]).1, 3, none⟩ = some (I (L.procs[i]).2.phase) ∧ w.cell? ⟨(L.procs[i]).1, 4, none⟩ = some (I (L.procs[i]).2.node) := fun i hi => ⟨by rw [h.pcell hi]; rfl, by rw [h.pcell hi]; rfl⟩
  generalize hps : L.procs = ps at *
  generalize L.tb = tb at *
  unfold maxLen at c2 c3
  clear h
  go_enter Tryz.func80, Tryz.ntmps80
  go_wp2
  go_loop [5] (fun i => ∃ k : Nat, k ≤ ps.length ∧ shutL v (ps.take k) = false ∧ i = .int .i64 k) (fun i => ps.length - (intOf i).toNat)
  case atStart => exact ⟨0, Nat.zero_le _, rfl, rfl⟩
  case round =>
    obtain ⟨k, hk, hs, rfl⟩ := hrel
    by_cases hlt : k < ps.length
    · obtain ⟨g, rfl, g0⟩ := h2 k hlt
      obtain ⟨p3, p4⟩ := hp k hlt
      have hts := take_succ_get ps k hlt
      have HT : Hid (shutL v (ps.take (k + 1)) = shutP v (ps[k]).2) := by show _ = _; rw [hts, shutL_append, hs]; simp [shutL]
      have HA : Hid (shutP v (ps[k]).2 = true → shutL v ps = true) := by
        intro hh
        have : shutL v ps = (shutL v (ps.take (k + 1)) || shutL v (ps.drop (k + 1))) := by rw [← shutL_append, List.take_append_drop]
        rw [this, HT.out, hh]; rfl
      clear hts hs h2 hp
      generalize hpk : ps[k] = p at *
      clear hpk
      by_cases hn : p.2.node = v
      · have b1 : (p.2.node == v) = true := by simp [hn]
        by_cases h16 : p.2.phase = 16
        · have b2 : (p.2.phase == 16) = true := by simp [h16]
          have HC : Hid (shutL v ps = true) := HA.out (by simp [shutP, hn, h16])
          clear HA HT hn h16
          go_wp2
          go_ret
          exact ⟨by rw [HC.out]; rfl, rfl⟩
        · have b2 : (p.2.phase == 16) = false := by simp [h16]
          by_cases h17 : p.2.phase = 17
          · have b3 : (p.2.phase == 17) = true := by simp [h17]
            have HC : Hid (shutL v ps = true) := HA.out (by simp [shutP, hn, h17])
            clear HA HT hn h16 h17
            go_wp2
            go_ret
            exact ⟨by rw [HC.out]; rfl, rfl⟩
          · have b3 : (p.2.phase == 17) = false := by simp [h17]
            by_cases h18 : p.2.phase = 18
            · have b4 : (p.2.phase == 18) = true := by simp [h18]
              have HC : Hid (shutL v ps = true) := HA.out (by simp [shutP, hn, h18])
              clear HA HT hn h16 h17 h18
              go_wp2
              go_ret
              exact ⟨by rw [HC.out]; rfl, rfl⟩
            · have b4 : (p.2.phase == 18) = false := by simp [h18]
              have HC : Hid (shutL v (ps.take (k + 1)) = false) := by show _ = _; rw [HT.out]; simp [shutP, h16, h17, h18]
              clear HA HT hn h16 h17 h18
              go_wp2
              go_round
              case rel => exact ⟨k + 1, by omega, HC.out, by go_num⟩
              case measure => simp [intOf]; omega
      · have b1 : (p.2.node == v) = false := by simp [hn]
        have HC : Hid (shutL v (ps.take (k + 1)) = false) := by show _ = _; rw [HT.out]; simp [shutP, hn]
        clear HA HT hn
        go_wp2
        go_round
        case rel => exact ⟨k + 1, by omega, HC.out, by go_num⟩
        case measure => simp [intOf]; omega
    · have HC : Hid (shutL v ps = false) := by show _ = _; rw [← hs, List.take_of_length_le (by omega)]
      clear hs
      go_wp2
      go_ret
      exact ⟨by rw [HC.out]; rfl, rfl⟩

/-- From node a up, as long as it is greater than v. -/
def climb : Nat → Nat → Nat → Nat
  | 0, a, _ => a
  | f + 1, a, v => if v < a then climb f (a / 2) v else a
def atP (p : Pr) : Nat := if p.phase = 0 ∨ p.phase = 15 ∨ p.phase = 16 ∨ p.phase = 17 ∨ p.phase = 18 then p.node.toNat / 2 else p.node.toNat
def holdsP (v : Nat) (p : Pr) : Bool := !decide (p.phase = 20) && decide (climb 6 (atP p) v = v)

theorem climb_stop (f a v : Nat) (h : ¬ v < a) : climb f a v = a := by cases f <;> simp [climb, h]

theorem ret_bool {a b : Bool} (h : a = b) : Ending.returned (.bool a) = .returned (.bool b) := by rw [h]
theorem ret_i {a b : Int} (h : a = b) : Ending.returned (I a) = .returned (I b) := by rw [h]
theorem int_of {a b : Int} (h : a = b) : Value.int .i64 a = .int .i64 b := by rw [h]
theorem beq_nat (a b : Nat) : ((a : Int) == (b : Int)) = decide (a = b) := by rw [Bool.eq_iff_iff]; simp; omega

set_option maxHeartbeats 2000000 in
theorem holds_loop (v : Nat) (a0 : Nat) (ha : a0 < 64) (p : Pr) (b : Nat) (w : World) (h3 : w.cell? ⟨b, 3, none⟩ = some (I p.phase)) (h4 : w.cell? ⟨b, 4, none⟩ = some (I p.node))
    (hn : p.node = ((p.node.toNat : Nat) : Int)) (hlt : p.node.toNat < 64) (hph : (p.phase == 20) = false) (hat : atP p = a0) :
    Calls Tryz.prog 115 #[.pointer (some ⟨b, 0, none⟩), I v] w fun e w' => e = .returned (.bool (decide (climb 6 a0 v = v))) ∧ w' = w := by
  generalize hnn : p.node.toNat = nn at *
  rw [hn] at h4
  have HE : Hid (atP p = if p.phase = 0 ∨ p.phase = 15 ∨ p.phase = 16 ∨ p.phase = 17 ∨ p.phase = 18 then nn / 2 else nn) := by show _ = _; rw [atP, hnn]
  have HA : Hid (atP p = a0) := hat
  clear hat hn hnn
  generalize p.phase = ph at *
  have hcases : (ph == 0) = true ∨ (ph == 15) = true ∨ (ph == 16) = true ∨ (ph == 17) = true ∨ (ph == 18) = true ∨ ((ph == 0) = false ∧ (ph == 15) = false ∧ (ph == 16) = false ∧ (ph == 17) = false ∧ (ph == 18) = false) := by
    simp; omega
  have hstart : ((ph = 0 ∨ ph = 15 ∨ ph = 16 ∨ ph = 17 ∨ ph = 18) ∧ a0 = nn / 2) ∨ ((ph == 0) = false ∧ (ph == 15) = false ∧ (ph == 16) = false ∧ (ph == 17) = false ∧ (ph == 18) = false) ∧ a0 = nn := by
    by_cases hh : ph = 0 ∨ ph = 15 ∨ ph = 16 ∨ ph = 17 ∨ ph = 18
    · exact Or.inl ⟨hh, by rw [← HA.out, HE.out, if_pos hh]⟩
    · exact Or.inr ⟨by simp; omega, by rw [← HA.out, HE.out, if_neg hh]⟩
  clear HA HE hcases
  rcases hstart with ⟨rfl | rfl | rfl | rfl | rfl, hE⟩ | ⟨⟨t0, t1, t2, t3, t4⟩, hE⟩
  all_goals
    have HX := hE
    replace HX : Hid (a0 = _) := HX
    clear hE
    go_enter Tryz.func115, Tryz.ntmps115
    go_wp2
    go_loop [5] (fun i => ∃ f aa : Nat, aa < 2 ^ f ∧ aa < 64 ∧ Hid (climb f aa v = climb 6 a0 v) ∧ i = .int .i64 aa) (fun i => (intOf i).toNat)
    case atStart => exact ⟨6, a0, ha, ha, rfl, int_of (by have := HX.out; omega)⟩
    case round =>
      obtain ⟨f, aa, hf, h64, hc, rfl⟩ := hrel
      by_cases hgt : v < aa
      · cases f with
        | zero => exfalso; simp at hf; omega
        | succ f =>
          have HC : Hid (climb f (aa / 2) v = climb 6 a0 v) := by have := hc.out; simp only [climb, hgt, if_true] at this; exact this
          clear hc
          have hf2 : aa / 2 < 2 ^ f := by rw [Nat.pow_succ] at hf; omega
          go_wp2
          go_round
          case rel => exact ⟨f, aa / 2, hf2, by omega, HC, by go_num⟩
          case measure => simp [intOf]; omega
      · have HC : Hid (climb 6 a0 v = aa) := by have := hc.out; rw [climb_stop _ _ _ hgt] at this; exact this.symm
        clear hc
        go_wp2
        go_ret
        exact ⟨ret_bool (by rw [HC.out]; exact beq_nat _ _), rfl⟩

set_option maxHeartbeats 2000000 in
theorem holds_done (v : Nat) (p : Pr) (b : Nat) (w : World) (h3 : w.cell? ⟨b, 3, none⟩ = some (I p.phase)) (hph : p.phase = 20) :
    Calls Tryz.prog 115 #[.pointer (some ⟨b, 0, none⟩), I v] w fun e w' => e = .returned (.bool false) ∧ w' = w := by
  rw [hph] at h3
  clear hph
  go_enter Tryz.func115, Tryz.ntmps115
  go_wp2
  go_ret
  exact ⟨rfl, rfl⟩

def NodeOk (p : Pr) : Prop := p.node = ((p.node.toNat : Nat) : Int) ∧ p.node.toNat < 64

theorem holds_c (v : Nat) (p : Pr) (b : Nat) (w : World) (h3 : w.cell? ⟨b, 3, none⟩ = some (I p.phase)) (h4 : w.cell? ⟨b, 4, none⟩ = some (I p.node)) (hp : NodeOk p) :
    Calls Tryz.prog 115 #[.pointer (some ⟨b, 0, none⟩), I v] w fun e w' => e = .returned (.bool (holdsP v p)) ∧ w' = w := by
  by_cases h : p.phase = 20
  · have : holdsP v p = false := by simp [holdsP, h]
    rw [this]; exact holds_done v p b w h3 h
  · have : holdsP v p = decide (climb 6 (atP p) v = v) := by simp [holdsP, h]
    rw [this]
    exact holds_loop v (atP p) (by have := hp.2; unfold atP; split <;> omega) p b w h3 h4 hp.1 hp.2 (by simp [h]) rfl

def insideL (v : Nat) : List (Nat × Pr) → Nat
  | [] => 0
  | p :: r => (if holdsP v p.2 then 1 else 0) + insideL v r

theorem insideL_append (v : Nat) (a b : List (Nat × Pr)) : insideL v (a ++ b) = insideL v a + insideL v b := by
  induction a with
  | nil => simp [insideL]
  | cons x a ih => simp [insideL, ih]; omega
theorem insideL_le (v : Nat) (a : List (Nat × Pr)) : insideL v a ≤ a.length := by
  induction a with
  | nil => simp [insideL]
  | cons x a ih => simp only [insideL, List.length_cons]; split <;> omega

set_option maxHeartbeats 2000000 in
theorem inside_c {w : World} {B : Nat} {L : Lay} (h : RefRep w B L) (hok : ∀ i, (hi : i < L.procs.length) → NodeOk (L.procs[i]).2) (v : Nat) :
    Calls Tryz.prog 84 #[.pointer (some ⟨L.tb, 0, none⟩), I v] w fun e w' => e = .returned (I (insideL v L.procs)) ∧ w' = w := by
  have h1 := h.pv_cell
  obtain ⟨ao, cap, e1, c1, c2, c3, h2⟩ := h.proc_at
  rw [e1] at h1
  clear e1
  have hp : ∀ i, (hi : i < L.procs.length) → Calls Tryz.prog 115 #[.pointer (some ⟨(L.procs[i]).1, 0, none⟩), I v] w fun e w' => e = .returned (.bool (holdsP v (L.procs[i]).2)) ∧ w' = w := fun i hi =>
    holds_c v _ _ w (by rw [h.pcell hi]; rfl) (by rw [h.pcell hi]; rfl) (hok i hi)
  generalize hps : L.procs = ps at *
  generalize L.tb = tb at *
  unfold maxLen at c2 c3
  clear h hok
  have HP := hp
  replace HP : Hid (∀ i, (hi : i < ps.length) → Calls Tryz.prog 115 #[.pointer (some ⟨(ps[i]).1, 0, none⟩), I v] w fun e w' => e = .returned (.bool (holdsP v (ps[i]).2)) ∧ w' = w) := HP
  clear hp
  go_enter Tryz.func84, Tryz.ntmps84
  go_wp2
  go_loop [5, 6] (fun n i => ∃ k : Nat, k ≤ ps.length ∧ n = .int .i64 (insideL v (ps.take k)) ∧ i = .int .i64 k) (fun _ i => ps.length - (intOf i).toNat)
  case atStart => exact ⟨0, Nat.zero_le _, rfl, rfl⟩
  case round =>
    obtain ⟨k, hk, rfl, rfl⟩ := hrel
    have hle := insideL_le v (ps.take k)
    have hle2 : (ps.take k).length ≤ k := List.length_take_le _ _
    by_cases hlt : k < ps.length
    · obtain ⟨g, rfl, g0⟩ := h2 k hlt
      have hc := HP.out k hlt
      have hts := take_succ_get ps k hlt
      have HT : Hid (insideL v (ps.take (k + 1)) = insideL v (ps.take k) + if holdsP v (ps[k]).2 then 1 else 0) := by show _ = _; rw [hts, insideL_append]; simp [insideL]
      clear hts h2 HP
      generalize hpk : ps[k] = p at *
      clear hpk
      cases hh : holdsP v p.2 with
      | true =>
        rw [hh] at hc
        have HC : Hid (insideL v (ps.take (k + 1)) = insideL v (ps.take k) + 1) := by show _ = _; rw [HT.out, hh]; simp
        clear HT hh
        go_wp2_with fail
        refine hc.mono ?_
        rintro x w1 ⟨rfl, rfl⟩
        go_wp2
        go_round
        case rel => exact ⟨k + 1, by omega, int_of (by rw [HC.out]; omega), by go_num⟩
        case measure => simp [intOf]; omega
      | false =>
        rw [hh] at hc
        have HC : Hid (insideL v (ps.take (k + 1)) = insideL v (ps.take k)) := by show _ = _; rw [HT.out, hh]; simp
        clear HT hh
        go_wp2_with fail
        refine hc.mono ?_
        rintro x w1 ⟨rfl, rfl⟩
        go_wp2
        go_round
        case rel => exact ⟨k + 1, by omega, int_of (by rw [HC.out]), by go_num⟩
        case measure => simp [intOf]; omega
    · have HC : Hid (insideL v ps = insideL v (ps.take k)) := by show _ = _; rw [List.take_of_length_le (by omega)]
      go_wp2
      go_ret
      exact ⟨by rw [HC.out]; rfl, rfl⟩

def waitP (v k : Int) (p : Pr) : Bool := decide (p.node = v) && decide (p.slot = k) && (decide (p.phase = 6) || decide (p.phase = 7))
def waitsL (v k : Int) : List (Nat × Pr) → Nat → Int
  | [], _ => -1
  | p :: r, i => if waitP v k p.2 then i else waitsL v k r (i + 1)

theorem drop_cons_get {α : Type} (l : List α) (k : Nat) (h : k < l.length) : l.drop k = l[k] :: l.drop (k + 1) := by
  rw [List.drop_eq_getElem_cons h]

set_option maxHeartbeats 2000000 in
theorem waits_c {w : World} {B : Nat} {L : Lay} (h : RefRep w B L) (v sl : Int) :
    Calls Tryz.prog 88 #[.pointer (some ⟨L.tb, 0, none⟩), I v, I sl] w fun e w' => e = .returned (I (waitsL v sl L.procs 0)) ∧ w' = w := by
  have h1 := h.pv_cell
  obtain ⟨ao, cap, e1, c1, c2, c3, h2⟩ := h.proc_at
  rw [e1] at h1
  clear e1
  have hp : ∀ i, (hi : i < L.procs.length) → w.cell? ⟨(L.procs[i]).1, 3, none⟩ = some (I (L.procs[i]).2.phase) ∧ w.cell? ⟨(L.procs[i]).1, 4, none⟩ = some (I (L.procs[i]).2.node) ∧ w.cell? ⟨(L.procs[i]).1, 7, none⟩ = some (I (L.procs[i]).2.slot) := fun i hi => ⟨by rw [h.pcell hi]; rfl, by rw [h.pcell hi]; rfl, by rw [h.pcell hi]; rfl⟩
  generalize hps : L.procs = ps at *
  generalize L.tb = tb at *
  unfold maxLen at c2 c3
  clear h
  go_enter Tryz.func88, Tryz.ntmps88
  go_wp2
  go_loop [7] (fun i => ∃ k : Nat, k ≤ ps.length ∧ waitsL v sl ps 0 = waitsL v sl (ps.drop k) k ∧ i = .int .i64 k) (fun i => ps.length - (intOf i).toNat)
  case atStart => exact ⟨0, Nat.zero_le _, rfl, rfl⟩
  case round =>
    obtain ⟨k, hk, hs, rfl⟩ := hrel
    by_cases hlt : k < ps.length
    · obtain ⟨g, rfl, g0⟩ := h2 k hlt
      obtain ⟨p3, p4, p7⟩ := hp k hlt
      have hts := drop_cons_get ps k hlt
      have HT : Hid (waitsL v sl ps 0 = if waitP v sl (ps[k]).2 then (k : Int) else waitsL v sl (ps.drop (k + 1)) (k + 1)) := by show _ = _; rw [hs, hts]; rfl
      clear hts hs h2 hp
      generalize hpk : ps[k] = p at *
      clear hpk
      have hno : waitP v sl p.2 = false → Hid (waitsL v sl ps 0 = waitsL v sl (ps.drop (k + 1)) (k + 1)) := fun hh => by show _ = _; rw [HT.out, hh]; simp
      have hyes : waitP v sl p.2 = true → Hid (waitsL v sl ps 0 = k) := fun hh => by show _ = _; rw [HT.out, hh]; simp
      by_cases hn : p.2.node = v
      · have b1 : (p.2.node == v) = true := by simp [hn]
        by_cases hk7 : p.2.slot = sl
        · have b2 : (p.2.slot == sl) = true := by simp [hk7]
          by_cases h6 : p.2.phase = 6
          · have b3 : (p.2.phase == 6) = true := by simp [h6]
            have HC := hyes (by simp [waitP, hn, hk7, h6])
            clear HT hn hk7 h6 hno hyes
            go_wp2
            go_ret
            exact ⟨by rw [HC.out]; rfl, rfl⟩
          · have b3 : (p.2.phase == 6) = false := by simp [h6]
            by_cases h7 : p.2.phase = 7
            · have b4 : (p.2.phase == 7) = true := by simp [h7]
              have HC := hyes (by simp [waitP, hn, hk7, h7])
              clear HT hn hk7 h6 h7 hno hyes
              go_wp2
              go_ret
              exact ⟨by rw [HC.out]; rfl, rfl⟩
            · have b4 : (p.2.phase == 7) = false := by simp [h7]
              have HC := hno (by simp [waitP, h6, h7])
              clear HT hn hk7 h6 h7 hno hyes
              go_wp2
              go_round
              case rel => exact ⟨k + 1, by omega, HC.out, by go_num⟩
              case measure => simp [intOf]; omega
        · have b2 : (p.2.slot == sl) = false := by simp [hk7]
          have HC := hno (by simp [waitP, hk7])
          clear HT hn hk7 hno hyes
          go_wp2
          go_round
          case rel => exact ⟨k + 1, by omega, HC.out, by go_num⟩
          case measure => simp [intOf]; omega
      · have b1 : (p.2.node == v) = false := by simp [hn]
        have HC := hno (by simp [waitP, hn])
        clear HT hn hno hyes
        go_wp2
        go_round
        case rel => exact ⟨k + 1, by omega, HC.out, by go_num⟩
        case measure => simp [intOf]; omega
    · have HC : Hid (waitsL v sl ps 0 = -1) := by show _ = _; rw [hs, List.drop_of_length_le (by omega)]; rfl
      clear hs
      go_wp2
      go_ret
      exact ⟨by rw [HC.out]; rfl, rfl⟩

def liveL : List (Nat × Pr) → Nat
  | [] => 0
  | p :: r => (if p.2.phase = 20 then 0 else 1) + liveL r
theorem liveL_append (a b : List (Nat × Pr)) : liveL (a ++ b) = liveL a + liveL b := by
  induction a with
  | nil => simp [liveL]
  | cons x a ih => simp [liveL, ih]; omega
theorem liveL_le (a : List (Nat × Pr)) : liveL a ≤ a.length := by
  induction a with
  | nil => simp [liveL]
  | cons x a ih => simp only [liveL, List.length_cons]; split <;> omega

set_option maxHeartbeats 2000000 in
theorem live_c {w : World} {B : Nat} {L : Lay} (h : RefRep w B L) :
    Calls Tryz.prog 63 #[.pointer (some ⟨L.tb, 0, none⟩)] w fun e w' => e = .returned (I (liveL L.procs)) ∧ w' = w := by
  have h1 := h.pv_cell
  obtain ⟨ao, cap, e1, c1, c2, c3, h2⟩ := h.proc_at
  rw [e1] at h1
  clear e1
  have hp : ∀ i, (hi : i < L.procs.length) → w.cell? ⟨(L.procs[i]).1, 3, none⟩ = some (I (L.procs[i]).2.phase) := fun i hi => by rw [h.pcell hi]; rfl
  generalize hps : L.procs = ps at *
  generalize L.tb = tb at *
  unfold maxLen at c2 c3
  clear h
  go_enter Tryz.func63, Tryz.ntmps63
  go_wp2
  go_loop [3, 4] (fun n i => ∃ k : Nat, k ≤ ps.length ∧ n = .int .i64 (liveL (ps.take k)) ∧ i = .int .i64 k) (fun _ i => ps.length - (intOf i).toNat)
  case atStart => exact ⟨0, Nat.zero_le _, rfl, rfl⟩
  case round =>
    obtain ⟨k, hk, rfl, rfl⟩ := hrel
    have hle := liveL_le (ps.take k)
    have hle2 : (ps.take k).length ≤ k := List.length_take_le _ _
    by_cases hlt : k < ps.length
    · obtain ⟨g, rfl, g0⟩ := h2 k hlt
      have hc := hp k hlt
      have hts := take_succ_get ps k hlt
      have HT : Hid (liveL (ps.take (k + 1)) = liveL (ps.take k) + if (ps[k]).2.phase = 20 then 0 else 1) := by show _ = _; rw [hts, liveL_append]; simp [liveL]
      clear hts h2 hp
      generalize hpk : ps[k] = p at *
      clear hpk
      by_cases hh : p.2.phase = 20
      · have b1 : (p.2.phase != 20) = false := by simp [hh]
        have HC : Hid (liveL (ps.take (k + 1)) = liveL (ps.take k)) := by show _ = _; rw [HT.out, if_pos hh]; rfl
        clear HT hh
        go_wp2
        go_round
        case rel => exact ⟨k + 1, by omega, int_of (by rw [HC.out]), by go_num⟩
        case measure => simp [intOf]; omega
      · have b1 : (p.2.phase != 20) = true := by simp [hh]
        have HC : Hid (liveL (ps.take (k + 1)) = liveL (ps.take k) + 1) := by show _ = _; rw [HT.out, if_neg hh]
        clear HT hh
        go_wp2
        go_round
        case rel => exact ⟨k + 1, by omega, int_of (by rw [HC.out]; omega), by go_num⟩
        case measure => simp [intOf]; omega
    · have HC : Hid (liveL ps = liveL (ps.take k)) := by show _ = _; rw [List.take_of_length_le (by omega)]
      go_wp2
      go_ret
      exact ⟨by rw [HC.out]; rfl, rfl⟩

def procV (L : Lay) (n : Int) : Value :=
  if 0 ≤ n ∧ n < L.procs.length then
    .tuple #[.agg #[I (L.procs.getD n.toNat (0, ⟨0, 0, 0, 0, 0, 0, 0, 0, 0, 0, 0, 0, 0⟩)).2.phase, I (L.procs.getD n.toNat (0, ⟨0, 0, 0, 0, 0, 0, 0, 0, 0, 0, 0, 0, 0⟩)).2.node, I (L.procs.getD n.toNat (0, ⟨0, 0, 0, 0, 0, 0, 0, 0, 0, 0, 0, 0, 0⟩)).2.val], I 0]
  else .tuple #[.agg #[I 0, I 0, I 0], I 5]

set_option maxHeartbeats 2000000 in
theorem rproc_c {w : World} {B : Nat} {L : Lay} (h : RefRep w B L) (n : Int) :
    Calls Tryz.prog 32 #[.pointer (some ⟨L.tb, 0, none⟩), I n] w fun e w' => e = .returned (procV L n) ∧ Below w.heap.size w w' := by
  have h1 := h.pv_cell
  obtain ⟨ao, cap, e1, c1, c2, c3, h2⟩ := h.proc_at
  rw [e1] at h1
  clear e1
  have l0 := h.size
  have HV : Hid (procV L n = if 0 ≤ n ∧ n < L.procs.length then
    .tuple #[.agg #[I (L.procs.getD n.toNat (0, ⟨0, 0, 0, 0, 0, 0, 0, 0, 0, 0, 0, 0, 0⟩)).2.phase, I (L.procs.getD n.toNat (0, ⟨0, 0, 0, 0, 0, 0, 0, 0, 0, 0, 0, 0, 0⟩)).2.node, I (L.procs.getD n.toNat (0, ⟨0, 0, 0, 0, 0, 0, 0, 0, 0, 0, 0, 0, 0⟩)).2.val], I 0]
  else .tuple #[.agg #[I 0, I 0, I 0], I 5]) := rfl
  generalize procV L n = V at *
  have hp : ∀ i, (hi : i < L.procs.length) → w.cell? ⟨(L.procs[i]).1, 3, none⟩ = some (I (L.procs[i]).2.phase) ∧ w.cell? ⟨(L.procs[i]).1, 4, none⟩ = some (I (L.procs[i]).2.node) ∧ w.cell? ⟨(L.procs[i]).1, 5, none⟩ = some (I (L.procs[i]).2.val) := fun i hi => ⟨by rw [h.pcell hi]; rfl, by rw [h.pcell hi]; rfl, by rw [h.pcell hi]; rfl⟩
  generalize hps : L.procs = ps at *
  generalize L.tb = tb at *
  unfold maxLen at c2 c3
  clear h
  by_cases hn : 0 ≤ n ∧ n < ps.length
  · obtain ⟨i, rfl⟩ := Int.eq_ofNat_of_zero_le hn.1
    have hi : i < ps.length := by omega
    have hV := HV.out
    rw [if_pos hn] at hV
    simp only [Int.toNat_natCast, List.getD_eq_getElem?_getD, List.getElem?_eq_getElem hi, Option.getD_some] at hV
    subst hV
    obtain ⟨g, rfl, g0⟩ := h2 i hi
    obtain ⟨p3, p4, p5⟩ := hp i hi
    have l1 := cell_lt g0
    have l2 := cell_lt p3
    clear HV hn h2 hp
    generalize ps[i] = p at *
    go_enter Tryz.func32, Tryz.ntmps32
    go_wp2
    go_region
    go_wp2
    exact bodyPost_ret (v := .tuple #[.agg #[I p.2.phase, I p.2.node, I p.2.val], I 0]) (by simp [results, Tryz.results32, go_sem]) rfl ⟨rfl, ((Below.refl _ _).alloc (Nat.le_refl _) _).drew⟩
  · have hV := HV.out
    rw [if_neg hn] at hV
    subst hV
    clear HV h2 hp
    by_cases h0 : n < 0
    · clear hn
      go_enter Tryz.func32, Tryz.ntmps32
      go_wp2
      exact bodyPost_ret (v := .tuple #[.agg #[I 0, I 0, I 0], I 5]) (by simp [results, Tryz.results32, go_sem]) rfl ⟨rfl, (Below.refl _ _).alloc (Nat.le_refl _) _⟩
    · have hge : (ps.length : Int) ≤ n := by omega
      clear hn
      have hd : decide (n < 0) = false := by simpa using h0
      go_enter Tryz.func32, Tryz.ntmps32
      go_wp2
      exact bodyPost_ret (v := .tuple #[.agg #[I 0, I 0, I 0], I 5]) (by simp [results, Tryz.results32, go_sem]) rfl ⟨rfl, (Below.refl _ _).alloc (Nat.le_refl _) _⟩

/-- What is told of a node. -/
structure ND where
  num : Int
  depth : Int
  rank : Int
  inner : Bool
  shut : Bool
  inside : Int
  toggle : Int
  width : Int
  waiting : List Int
  puts : Int
  gets : Int
  items : List Int

/-- One node's cells; wv, iv: its two lists as values. -/
def ndCells (d : ND) (wv iv : Value) : List Value :=
  [I d.num, I d.depth, I d.rank, .bool d.inner, .bool d.shut, I d.inside, I d.toggle, I d.width, wv, I d.puts, I d.gets, iv]
def ndsCells (l : List (ND × Value × Value)) : List Value := l.flatMap fun y => ndCells y.1 y.2.1 y.2.2

/-- x is a list of nodes that lies in blocks from b on. -/
structure NodesRep (w : World) (b : Nat) (x : Value) (l : List (ND × Value × Value)) : Prop where
  row : w.ownsRow b 105 12 x l.length (ndsCells l)
  waiting : ∀ y ∈ l, w.ownsRow b 3 1 y.2.1 y.1.waiting.length (y.1.waiting.map I)
  items : ∀ y ∈ l, w.ownsRow b 3 1 y.2.2 y.1.items.length (y.1.items.map I)

theorem NodesRep.below {w w' : World} {b C : Nat} {x : Value} {l : List (ND × Value × Value)} (h : NodesRep w b x l) (hb : Below C w w') (hC : w.heap.size ≤ C) : NodesRep w' b x l :=
  ⟨ownsRow_below h.row hb hC, fun y hy => ownsRow_below (h.waiting y hy) hb hC, fun y hy => ownsRow_below (h.items y hy) hb hC⟩

def waitTo (v : Int) (ps : List (Nat × Pr)) (k : Nat) : List Int := (List.range k).map fun j : Nat => waitsL v (j : Int) ps 0

def rnode (L : Lay) (v : Nat) : ND :=
  if formH (L.hist v) = 1 then
    ⟨v, Nat.log2 v, rank v, true, shutL v L.procs, insideL v L.procs, ((fromH (L.hist v)).1.n + manyH 4 (-1) (L.hist v)) % 2, widthH (L.hist v), waitTo v L.procs L.c.width.toNat, 0, 0, []⟩
  else ⟨v, Nat.log2 v, rank v, false, shutL v L.procs, insideL v L.procs, 0, 0, [], putsH (L.hist v), manyH 7 (-1) (L.hist v), itemsH (L.hist v)⟩
def rnodesTo (L : Lay) (k : Nat) : List ND := (List.range k).filterMap fun v => if v = 0 ∨ formH (L.hist v) = 3 then none else some (rnode L v)
def rnodes (L : Lay) : List ND := rnodesTo L L.past.length

theorem rnodesTo_succ (L : Lay) (k : Nat) : rnodesTo L (k + 1) = rnodesTo L k ++ (if k = 0 ∨ formH (L.hist k) = 3 then [] else [rnode L k]) := by
  simp only [rnodesTo, List.range_succ, List.filterMap_append]
  congr 1
  by_cases h : k = 0 ∨ formH (L.hist k) = 3 <;> simp [h]

theorem rnodesTo_le (L : Lay) (k : Nat) : (rnodesTo L k).length ≤ k := by
  have := List.length_filterMap_le (fun v => if v = 0 ∨ formH (L.hist v) = 3 then none else some (rnode L v)) (List.range k)
  simpa [rnodesTo] using this

theorem Tryz.info105 : (Tryz.prog.info? 105).map (fun i => (i.zero, i.size, i.bytes)) = some (some (.agg #[.int .i64 0, .int .i64 0, .int .i64 0, .bool false, .bool false, .int .i64 0, .int .i64 0, .int .i64 0, .slice none 0 0, .int .i64 0, .int .i64 0, .slice none 0 0]), 12, 120) := by kernel_rfl

theorem nb_facts {w : World} {nb : Nat} {arr : Array Value} {T : TypeId} (h : w.heap[nb]? = some (.cells arr T (0, 0))) :
    (∀ j, w.cell? ⟨nb, j, none⟩ = arr[j]?) ∧ (∀ j, w.frozen? ⟨nb, j, none⟩ = false) :=
  ⟨fun j => by simp [World.cell?, h], fun j => by simp [World.frozen?, h]⟩

theorem nb_set {w : World} {nb : Nat} {arr : Array Value} {T : TypeId} (h : w.heap[nb]? = some (.cells arr T (0, 0))) (j : Nat) (x : Value) :
    (w.setCell ⟨nb, j, none⟩ x).heap[nb]? = some (.cells (arr.setIfInBounds j x) T (0, 0)) := by
  simp [World.setCell, Array.getElem?_modify, h]

theorem nb_alloc (w : World) (arr : Array Value) (T : TypeId) : (w.alloc (.cells arr T)).heap[w.heap.size]? = some (.cells arr T (0, 0)) := by
  show (w.heap.push _)[w.heap.size]? = _
  simp

theorem ownsRow_mono {w : World} {b b' : Nat} {e : TypeId} {size : Nat} {v : Value} {n : Nat} {xs : List Value} (h : w.ownsRow b e size v n xs) (hb : b' ≤ b) : w.ownsRow b' e size v n xs := by
  obtain ⟨h1, h2⟩ := h
  refine ⟨h1, ?_⟩
  rcases h2 with h2 | ⟨g, cap, cur, hv, hg, r⟩
  · exact Or.inl h2
  · exact Or.inr ⟨g, cap, cur, hv, Nat.le_trans hb hg, r⟩

theorem ownsRow_block {w : World} {b : Nat} {e : TypeId} {size : Nat} {v : Value} {n : Nat} {xs : List Value} (h : w.ownsRow b e size v n xs) {g : Nat} (hg : v.ownBlock = some g) : ∃ cur, w.heap[g]? = some (.cells cur e (0, 0)) := by
  obtain ⟨_, h2⟩ := h
  rcases h2 with ⟨rfl, _⟩ | ⟨g', cap, cur, rfl, _, hh, _⟩
  · simp [Value.ownBlock] at hg
  · simp [Value.ownBlock] at hg
    subst hg
    exact ⟨cur, hh⟩

/-- A row keeps what it holds while a block of another type is written. -/
theorem ownsRow_setCell_type {w : World} {b : Nat} {e : TypeId} {size : Nat} {v : Value} {n : Nat} {xs : List Value} (h : w.ownsRow b e size v n xs) {nb : Nat} {arr : Array Value} {T : TypeId} {f : Nat × Nat}
    (hn : w.heap[nb]? = some (.cells arr T f)) (hne : T ≠ e) (j : Nat) (x : Value) : (w.setCell ⟨nb, j, none⟩ x).ownsRow b e size v n xs := by
  obtain ⟨h1, h2⟩ := h
  refine ⟨h1, ?_⟩
  rcases h2 with h2 | ⟨g, cap, cur, hv, hg, hh, r⟩
  · exact Or.inl h2
  · refine Or.inr ⟨g, cap, cur, hv, hg, ?_, r⟩
    rw [Below.heap_setCell _ _ _ _ (by
      intro e1
      simp at e1
      subst e1
      rw [hn] at hh
      simp at hh
      exact hne hh.2.1)]
    exact hh

/-- A row keeps what it holds while a row of another type grows. -/
theorem ownsRow_kept_type {w w' : World} {b b' : Nat} {e e' : TypeId} {size size' : Nat} {v v' : Value} {n n' : Nat} {xs xs' : List Value} (h : w.ownsRow b e size v n xs) (h' : w.ownsRow b' e' size' v' n' xs') (hne : e ≠ e')
    (hg : w.grownBy w' v'.ownBlock) : w'.ownsRow b e size v n xs := by
  refine h.kept hg ?_
  cases hv : v.ownBlock with
  | none => exact Or.inl rfl
  | some g =>
    refine Or.inr fun he => ?_
    obtain ⟨c1, h1⟩ := ownsRow_block h hv
    obtain ⟨c2, h2⟩ := ownsRow_block h' he.symm
    rw [h1] at h2
    simp at h2
    exact hne h2.2

theorem nodes_snoc {w w3 : World} {o : Obj} {b nw ni : Nat} {x x' : Value} {l : List (ND × Value × Value)} {d : ND} {wv iv : Value} (h : NodesRep w b x l)
    (hw : w.ownsRow b 3 1 wv nw (d.waiting.map I)) (hi : w.ownsRow b 3 1 iv ni (d.items.map I))
    (hown : w3.ownsRow b 105 12 x' (l.length + 1) (ndsCells l ++ ndCells d wv iv)) (hg : (w.alloc o).grownBy w3 x.ownBlock) : NodesRep w3 b x' (l ++ [(d, wv, iv)]) where
  row := by simpa [ndsCells] using hown
  waiting := fun y hy => by
    rcases List.mem_append.1 hy with hy | hy
    · exact ownsRow_kept_type ((h.waiting y hy).alloc o) (h.row.alloc o) (by decide) hg
    · simp at hy; subst hy
      have : nw = d.waiting.length := by have := hw.1; simpa using this.symm
      subst this
      exact ownsRow_kept_type (hw.alloc o) (h.row.alloc o) (by decide) hg
  items := fun y hy => by
    rcases List.mem_append.1 hy with hy | hy
    · exact ownsRow_kept_type ((h.items y hy).alloc o) (h.row.alloc o) (by decide) hg
    · simp at hy; subst hy
      have : ni = d.items.length := by have := hi.1; simpa using this.symm
      subst this
      exact ownsRow_kept_type (hi.alloc o) (h.row.alloc o) (by decide) hg

theorem cells_new (w : World) (xs : List Value) (T : TypeId) : ∀ (j : Nat) (u : Value), xs[j]? = some u → (w.alloc (.cells xs.toArray T)).cell? ((⟨w.heap.size, 0, none⟩ : Addr).add j) = some u := by
  intro j u h
  have h2 := nb_alloc w xs.toArray T
  have h3 := (nb_facts h2).1 j
  have e : ((⟨w.heap.size, 0, none⟩ : Addr).add j) = ⟨w.heap.size, j, none⟩ := by
    unfold Addr.add
    split <;> simp_all
  rw [e, h3]
  simpa using h

theorem nd_one (d : ND) (a : Option Addr) (n c : Nat) (a' : Option Addr) (n' c' : Nat) : ∀ u ∈ ndCells d (.slice a n c) (.slice a' n' c'), u.oneCell' = true := by
  intro u hu
  simp only [ndCells, List.mem_cons, List.not_mem_nil, or_false] at hu
  rcases hu with h | h | h | h | h | h | h | h | h | h | h | h <;> subst h <;> rfl

def mayC (c : Conf) : Bool := decide ((c.kind = 0 ∨ c.kind = 1) ∧ 0 ≤ c.depth ∧ c.depth ≤ 4 ∧ 0 ≤ c.start ∧ c.start ≤ c.depth ∧ 1 ≤ c.slots ∧ c.slots ≤ 4 ∧ 1 ≤ c.width ∧ c.width ≤ 4 ∧ 0 ≤ c.spin ∧ c.spin ≤ 8 ∧ 0 ≤ c.drain ∧ c.drain ≤ 16 ∧ 1 ≤ c.procs ∧ c.procs ≤ 16)
def confV (c : Conf) : Value := .agg #[I c.kind, I c.depth, I c.start, I c.slots, I c.width, I c.spin, I c.drain, I c.procs]

theorem mayC_mk {c : Conf} {b : Bool} (h : b = true ↔ ((c.kind = 0 ∨ c.kind = 1) ∧ 0 ≤ c.depth ∧ c.depth ≤ 4 ∧ 0 ≤ c.start ∧ c.start ≤ c.depth ∧ 1 ≤ c.slots ∧ c.slots ≤ 4 ∧ 1 ≤ c.width ∧ c.width ≤ 4 ∧ 0 ≤ c.spin ∧ c.spin ≤ 8 ∧ 0 ≤ c.drain ∧ c.drain ≤ 16 ∧ 1 ≤ c.procs ∧ c.procs ≤ 16)) : b = mayC c := by
  rw [Bool.eq_iff_iff, h]; simp [mayC]

set_option maxHeartbeats 4000000 in
theorem may_c (c : Conf) (w : World) : Calls Tryz.prog 16 #[confV c] w fun e w' => e = .returned (.bool (mayC c)) ∧ Below w.heap.size w w' := by
  have HM : Hid (∀ b : Bool, (b = true ↔ ((c.kind = 0 ∨ c.kind = 1) ∧ 0 ≤ c.depth ∧ c.depth ≤ 4 ∧ 0 ≤ c.start ∧ c.start ≤ c.depth ∧ 1 ≤ c.slots ∧ c.slots ≤ 4 ∧ 1 ≤ c.width ∧ c.width ≤ 4 ∧ 0 ≤ c.spin ∧ c.spin ≤ 8 ∧ 0 ≤ c.drain ∧ c.drain ≤ 16 ∧ 1 ≤ c.procs ∧ c.procs ≤ 16)) → b = mayC c) := fun b h => mayC_mk h
  unfold confV
  generalize mayC c = M at *
  obtain ⟨kind, depth, start, slots, width, spin, drain, procs⟩ := c
  simp only at *
  by_cases hk : kind = 0 ∨ kind = 1
  · have hk2 : (kind != 0) = false ∨ ((kind != 0) = true ∧ (kind != 1) = false) := by
      rcases hk with rfl | rfl <;> simp
    have HK : Hid (kind = 0 ∨ kind = 1) := hk
    clear hk
    rcases hk2 with k0 | ⟨k0, k1⟩
    all_goals
      go_enter Tryz.func16, Tryz.ntmps16
      go_wp2
    all_goals
      go_ret
      exact ⟨ret_bool (HM.out _ (by have := HK.out; simp; omega)), (Below.refl _ _).alloc (Nat.le_refl _) _⟩
  · have k0 : (kind != 0) = true := by simp; omega
    have k1 : (kind != 1) = true := by simp; omega
    have HK : Hid (¬ (kind = 0 ∨ kind = 1)) := hk
    clear hk
    go_enter Tryz.func16, Tryz.ntmps16
    go_wp2
    go_ret
    exact ⟨ret_bool (HM.out _ (by have := HK.out; simp; omega)), (Below.refl _ _).alloc (Nat.le_refl _) _⟩

theorem Tryz.info69 : (Tryz.prog.info? 69).map (fun i => (i.zero, i.size, i.bytes)) = some (some (.agg #[.int .i64 0, .int .i64 0, .int .i64 0, .slice none 0 0]), 4, 48) := by kernel_rfl

set_option maxHeartbeats 4000000 in
theorem happens_walk {w : World} {B tb hb v n cap ll : Nat} {lv : Value} {cs : List Value} {a0 a1 a2 : Int} {io : Option Addr} {il ic : Nat}
    (h1 : w.cell? ⟨tb, 9, none⟩ = some (.slice (some ⟨hb, 0, none⟩) n cap)) (hv : v < n) (_hn : n ≤ cap) (_hcap : cap ≤ maxLen)
    (h2 : w.cell? ⟨hb, v, none⟩ = some lv) (hfz : w.frozen? ⟨hb, v, none⟩ = false)
    (hown : w.ownsRow B 69 4 lv ll cs) (hll : ll ≤ 1000000000000) (hB : B ≤ w.heap.size) (hne : ∀ g, lv.ownBlock = some g → g ≠ hb) (hnt : ∀ g, lv.ownBlock = some g → g ≠ tb) :
    Calls Tryz.prog 18 #[.pointer (some ⟨tb, 0, none⟩), I v, .agg #[I a0, I a1, I a2, .slice io il ic]] w fun e w' => ∃ w1 g cp, e = .returned (.tuple #[]) ∧ w1.ownsRow B 69 4 (.slice (some ⟨g, 0, none⟩) (ll + 1) cp) (ll + 1) (cs ++ [I a0, I a1, I a2, .slice io il ic]) ∧ w.grownBy w1 lv.ownBlock ∧ (lv.ownBlock = some g ∨ w.heap.size ≤ g) ∧ w' = w1.setCell ⟨hb, v, none⟩ (.slice (some ⟨g, 0, none⟩) (ll + 1) cp) := by
  obtain ⟨i0, hi, hz0, hz1, hz2⟩ := info_parts Tryz.info69
  obtain ⟨ao, lc, rfl, q1, q2, q3, _⟩ := ownsRow_cells hown
  have l1 := cell_lt h1
  have l2 := cell_lt h2
  unfold maxLen at _hcap q2 q3
  go_enter Tryz.func18, Tryz.ntmps18
  go_wp2_with fail
  have HG : Hid (∀ w', (((w.alloc (.cells #[I a0, I a1, I a2, .slice io il ic] 69)).alloc (.cells #[I a0, I a1, I a2, .slice io il ic] 69)).drew).grownBy w' (Value.slice ao ll lc).ownBlock → w.grownBy w' (Value.slice ao ll lc).ownBlock) := by
    intro w' hg
    refine ⟨hg.os, hg.tape, hg.output, Nat.le_trans (by simp; omega) hg.size, fun k hk hr => (hg.block k (by simp; omega) hr).trans ?_⟩
    show ((w.alloc _).alloc _).heap[k]? = _
    rw [Below.heap_alloc _ _ _ (by simp; omega), Below.heap_alloc _ _ _ hk]
  have HC : Hid (∀ w', w.grownBy w' (Value.slice ao ll lc).ownBlock → w'.cell? ⟨tb, 9, none⟩ = some (.slice (some ⟨hb, 0, none⟩) n cap) ∧ w'.cell? ⟨hb, v, none⟩ = some (.slice ao ll lc) ∧ w'.frozen? ⟨hb, v, none⟩ = false) := by
    intro w' hg
    have n1 : some hb ≠ (Value.slice ao ll lc).ownBlock := fun h => hne hb h.symm rfl
    have n2 : some tb ≠ (Value.slice ao ll lc).ownBlock := fun h => hnt tb h.symm rfl
    exact ⟨(World.cell?_of_block (a := ⟨tb, 9, none⟩) (hg.block tb l1 n2)).trans h1, (World.cell?_of_block (a := ⟨hb, v, none⟩) (hg.block hb l2 n1)).trans h2, (World.frozen?_of_block (a := ⟨hb, v, none⟩) (hg.block hb l2 n1)).trans hfz⟩
  have HO : Hid ((((w.alloc (.cells #[I a0, I a1, I a2, .slice io il ic] 69)).alloc (.cells #[I a0, I a1, I a2, .slice io il ic] 69)).drew).ownsRow B 69 4 (.slice ao ll lc) ll cs) := ((hown.alloc _).alloc _).drew
  have HN : Hid (∀ j u, [I a0, I a1, I a2, .slice io il ic][j]? = some u → (((w.alloc (.cells #[I a0, I a1, I a2, .slice io il ic] 69)).alloc (.cells #[I a0, I a1, I a2, .slice io il ic] 69)).drew).cell? ((⟨w.heap.size + 1, 0, none⟩ : Addr).add j) = some u) := by
    have := cells_new (w.alloc (.cells #[I a0, I a1, I a2, .slice io il ic] 69)) [I a0, I a1, I a2, .slice io il ic] 69
    simp only [World.size_alloc] at this
    exact this
  have H1 : Hid (∀ u ∈ [I a0, I a1, I a2, .slice io il ic], u.oneCell' = true) := by
    intro u hu
    simp only [List.mem_cons, List.not_mem_nil, or_false] at hu
    rcases hu with h | h | h | h <;> subst h <;> rfl
  have HB : Hid (B ≤ (((w.alloc (.cells #[I a0, I a1, I a2, .slice io il ic] 69)).alloc (.cells #[I a0, I a1, I a2, .slice io il ic] 69)).drew).heap.size) := by
    show B ≤ ((w.alloc _).alloc _).heap.size
    simp; omega
  have HM : Hid (ll + 1 ≤ maxLen) := by show _ ≤ _; unfold maxLen; omega
  have HY : Hid ((ll + 1) * 48 ≤ 140737488355328) := by show _ ≤ _; omega
  clear hown hfz hB hne hnt hll
  have HH : Hid ((((w.alloc (.cells #[I a0, I a1, I a2, .slice io il ic] 69)).alloc (.cells #[I a0, I a1, I a2, .slice io il ic] 69)).drew).heap.size = w.heap.size + 2) := by
    show ((w.alloc _).alloc _).heap.size = _
    simp
  go_region_law (refine step_append_lies _ rfl (.tmp 17) (.tmp 19) 91 rfl B 69 i0 _ 4 48 Tryz.underlying91 hi hz0 hz1 hz2 rfl (by decide) _ _ _ rfl HO.out ⟨w.heap.size + 1, 0, none⟩ 1 1 [I a0, I a1, I a2, .slice io il ic] rfl rfl HN.out H1.out (by decide) HM.out HY.out HB.out (w.heap.size + 2) HH.out ?_; intro g cp w3 ho hg hgl _; have hg2 := HG.out _ hg; obtain ⟨cc1, cc2, cc3⟩ := HC.out _ hg2; clear hg)
  all_goals
    go_end0
    exact ⟨w3, g, cp, rfl, ho, hg2, by rcases hgl with h | h; exact Or.inl h; exact Or.inr (by omega), rfl⟩

/-- From B on only blocks of the types T have turned; below B none. -/
structure ChgT (B : Nat) (T : List TypeId) (w w' : World) : Prop where
  os : w'.os = w.os
  tape : w'.tape = w.tape
  output : w'.output = w.output
  size : w.heap.size ≤ w'.heap.size
  block : ∀ k, k < w.heap.size → (k < B ∨ ∀ c e f, w.heap[k]? = some (.cells c e f) → e ∉ T) → w'.heap[k]? = w.heap[k]?

theorem ChgT.refl (B : Nat) (T : List TypeId) (w : World) : ChgT B T w w := ⟨rfl, rfl, rfl, Nat.le_refl _, fun _ _ _ => rfl⟩
theorem ChgT.trans {B : Nat} {T : List TypeId} {a b c : World} (h : ChgT B T a b) (k : ChgT B T b c) : ChgT B T a c :=
  ⟨k.os.trans h.os, k.tape.trans h.tape, k.output.trans h.output, Nat.le_trans h.size k.size, fun i hi hc => by
    have h1 := h.block i hi hc
    rw [← h1]
    refine k.block i (Nat.lt_of_lt_of_le hi h.size) ?_
    rcases hc with hc | hc
    · exact Or.inl hc
    · exact Or.inr fun c' e f hh => hc c' e f (by rw [← h1]; exact hh)⟩
theorem ChgT.of_below {B : Nat} {T : List TypeId} {a b : World} (h : Below a.heap.size a b) : ChgT B T a b :=
  ⟨h.os, h.tape, h.output, h.size, fun k hk _ => h.block k hk⟩
theorem ChgT.below {B : Nat} {T : List TypeId} {a b : World} (h : ChgT B T a b) (hB : B ≤ a.heap.size) : Below B a b :=
  ⟨h.os, h.tape, h.output, h.size, fun k hk => h.block k (by omega) (Or.inl hk)⟩
theorem ChgT.mono {B B' : Nat} {T T' : List TypeId} {a b : World} (h : ChgT B T a b) (hB : B' ≤ B) (hT : ∀ e, e ∈ T → e ∈ T') : ChgT B' T' a b :=
  ⟨h.os, h.tape, h.output, h.size, fun k hk hc => h.block k hk (by
    rcases hc with hc | hc
    · exact Or.inl (by omega)
    · exact Or.inr fun c e f hh he => hc c e f hh (hT e he))⟩
theorem ChgT.at {B : Nat} {T : List TypeId} {a b : World} (h : ChgT B T a b) {k : Nat} {c : Array Value} {e : TypeId} {f : Nat × Nat} (hk : a.heap[k]? = some (.cells c e f)) (he : e ∉ T) : b.heap[k]? = some (.cells c e f) := by
  rw [h.block k (Array.getElem?_eq_some_iff.1 hk).1 (Or.inr fun c' e' f' hh => by rw [hk] at hh; simp at hh; rw [← hh.2.1]; exact he)]
  exact hk
theorem ChgT.row {B : Nat} {T : List TypeId} {a b : World} (h : ChgT B T a b) {base : Nat} {e : TypeId} {size : Nat} {v : Value} {n : Nat} {xs : List Value} (hr : a.ownsRow base e size v n xs) (he : e ∉ T) : b.ownsRow base e size v n xs := by
  obtain ⟨h1, h2⟩ := hr
  refine ⟨h1, ?_⟩
  rcases h2 with h2 | ⟨g, cap, cur, hv, hg, hh, r⟩
  · exact Or.inl h2
  · exact Or.inr ⟨g, cap, cur, hv, hg, h.at hh he, r⟩

theorem ownsRow_set {w : World} {base : Nat} {e : TypeId} {g n cap : Nat} {xs : List Value} (h : w.ownsRow base e 1 (.slice (some ⟨g, 0, none⟩) n cap) n xs) (k : Nat) (x : Value) :
    (w.setCell ⟨g, k, none⟩ x).ownsRow base e 1 (.slice (some ⟨g, 0, none⟩) n cap) n (xs.set k x) := by
  obtain ⟨h1, h2⟩ := h
  refine ⟨by simpa using h1, ?_⟩
  rcases h2 with ⟨h2, _⟩ | ⟨g', cap', cur, hv, hg, hh, r1, r2, r3, r4⟩
  · simp at h2
  · simp only [Value.slice.injEq, Option.some.injEq, Addr.mk.injEq] at hv
    obtain ⟨⟨rfl, _, _⟩, _, rfl⟩ := hv
    refine Or.inr ⟨g, cap, cur.setIfInBounds k x, rfl, hg, ?_, r1, r2, by simpa using r3, ?_⟩
    · simp [World.setCell, Array.getElem?_modify, hh]
    · rw [← r4]; simp [List.take_set]

theorem lay_hist_set (L : Lay) (v : Nat) (x : Value) (l : Hist) (u : Nat) (hv : v < L.past.length) : ({ L with past := L.past.set v (x, l) } : Lay).hist u = if u = v then l else L.hist u := by
  by_cases h : u = v
  · subst h; simp [Lay.hist, hv, List.getD_eq_getElem?_getD]
  · simp [Lay.hist, h, List.getD_eq_getElem?_getD, Ne.symm h]

theorem happens_c {w : World} {B : Nat} {L : Lay} (h : RefRep w B L) (hB : B ≤ w.heap.size) (v : Nat) (hv : v < L.past.length) (hll : (L.hist v).length ≤ 1000000000000) (ev : Ev) (iv : Value) (hiv : w.ownsRow B 3 1 iv ev.items.length (ev.items.map I)) :
    Calls Tryz.prog 18 #[.pointer (some ⟨L.tb, 0, none⟩), I v, .agg #[I ev.what, I ev.n, I ev.v, iv]] w fun e w' => e = .returned (.tuple #[]) ∧ (∃ x, RefRep w' B { L with past := L.past.set v (x, (ev, iv) :: L.hist v) }) ∧ ChgT B [91, 69] w w' := by
  have h1 := h.hv_cell
  obtain ⟨hb, cap, e1, c1, c2, h2⟩ := h.past_at hv
  rw [e1] at h1
  have hh : L.hist v = (L.past[v]).2 := by simp [Lay.hist, hv]
  have hrow := h.hrow
  rw [e1] at hrow
  obtain ⟨cur, hbk⟩ := ownsRow_block hrow (g := hb) rfl
  obtain ⟨io, ic, e3, _⟩ := ownsRow_cells hiv
  have hne : ∀ g, (L.past[v]).1.ownBlock = some g → g ≠ hb := by
    intro g hg e
    obtain ⟨c', hc'⟩ := ownsRow_block (h.hist v hv) hg
    rw [e, hbk] at hc'
    simp at hc'
  have hnt : ∀ g, (L.past[v]).1.ownBlock = some g → g ≠ L.tb := by
    intro g hg e
    obtain ⟨c', hc'⟩ := ownsRow_block (h.hist v hv) hg
    rw [e, h.tree] at hc'
    simp at hc'
  subst e3
  refine (happens_walk h1 hv c1 c2 h2 ((nb_facts hbk).2 v) (h.hist v hv) (by rw [← hh]; exact hll) hB hne hnt).mono ?_
  rintro e w' ⟨w1, g, cp, rfl, ho, hg, hgl, rfl⟩
  refine ⟨rfl, ?_⟩
  have hbk1 : w1.heap[hb]? = some (.cells cur 91 (0, 0)) := by
    rw [hg.block hb (Array.getElem?_eq_some_iff.1 hbk).1 (fun he => hne hb he.symm rfl)]; exact hbk
  have hchg : ChgT B [91, 69] w (w1.setCell ⟨hb, v, none⟩ (.slice (some ⟨g, 0, none⟩) ((L.past[v]).2.length + 1) cp)) := by
    refine ⟨hg.os, hg.tape, hg.output, by simpa [World.setCell] using hg.size, fun k hk hc => ?_⟩
    have hkb : k ≠ hb := by
      intro e
      subst e
      rcases hc with hc | hc
      · have := (hrow.lt k rfl).1; omega
      · exact absurd (hc _ _ _ hbk) (by simp)
    rw [Below.heap_setCell _ _ _ _ hkb]
    refine hg.block k hk fun he => ?_
    rcases hc with hc | hc
    · have := ((h.hist v hv).lt k he.symm).1; omega
    · obtain ⟨c', hc'⟩ := ownsRow_block (h.hist v hv) he.symm
      exact absurd (hc _ _ _ hc') (by simp)
  refine ⟨⟨.slice (some ⟨g, 0, none⟩) ((L.past[v]).2.length + 1) cp, ?_⟩, hchg⟩
  rw [hh]
  constructor
  · exact hchg.at h.tree (by decide)
  · exact h.treeB
  · exact hchg.row h.prow (by decide)
  · exact fun i hi => ⟨hchg.at (h.pblk i hi).1 (by decide), (h.pblk i hi).2⟩
  · exact h.pnd
  · show World.ownsRow _ B _ 1 L.hv (L.past.set v _).length _
    rw [List.length_set, List.map_set, e1]
    have r1 : w1.ownsRow B 91 1 (.slice (some ⟨hb, 0, none⟩) L.past.length cap) L.past.length (L.past.map fun x => x.1) := hrow.kept hg (Or.inr fun he => hne hb he.symm rfl)
    exact ownsRow_set r1 v _
  · intro i hi'
    have hi : i < L.past.length := by simpa using hi'
    by_cases hiv' : i = v
    · subst hiv'
      simp only [List.getElem_set_self, List.length_cons, histCells, evCells]
      exact ownsRow_setCell_type ho hbk1 (by decide) i _
    · simp only [List.getElem_set_ne (Ne.symm hiv')]
      refine ownsRow_setCell_type ((h.hist i hi).kept hg ?_) hbk1 (by decide) v _
      cases hx : (L.past[i]).1.ownBlock with
      | none => exact Or.inl rfl
      | some g' => exact Or.inr fun he => hiv' (h.hnd i v hi hv g' hx he.symm)
  · intro i hi' y hy
    have hi : i < L.past.length := by simpa using hi'
    by_cases hiv' : i = v
    · subst hiv'
      simp only [List.getElem_set_self, List.mem_cons] at hy
      rcases hy with rfl | hy
      · exact hchg.row hiv (by decide)
      · exact hchg.row (h.items i hi y hy) (by decide)
    · simp only [List.getElem_set_ne (Ne.symm hiv')] at hy
      exact hchg.row (h.items i hi y hy) (by decide)
  · intro i j hi' hj' g' hgi hgj
    have hi : i < L.past.length := by simpa using hi'
    have hj : j < L.past.length := by simpa using hj'
    have key : ∀ i, (hi : i < L.past.length) → i ≠ v → (L.past[i]).1.ownBlock = some g → False := by
      intro i hi hiv hx
      rcases hgl with hgl | hgl
      · exact hiv (h.hnd i v hi hv g hx hgl)
      · have := ((h.hist i hi).lt g hx).2; omega
    by_cases h1 : i = v
    · by_cases h2 : j = v
      · omega
      · subst h1
        simp only [List.getElem_set_self, Value.ownBlock, Option.some.injEq] at hgi
        simp only [List.getElem_set_ne (Ne.symm h2)] at hgj
        subst hgi
        exact (key j hj h2 hgj).elim
    · by_cases h2 : j = v
      · subst h2
        simp only [List.getElem_set_self, Value.ownBlock, Option.some.injEq] at hgj
        simp only [List.getElem_set_ne (Ne.symm h1)] at hgi
        subst hgj
        exact (key i hi h1 hgi).elim
      · simp only [List.getElem_set_ne (Ne.symm h1)] at hgi
        simp only [List.getElem_set_ne (Ne.symm h2)] at hgj
        exact h.hnd i j hi hj g' hgi hgj

/-- What has happened at node u of a new tree. -/
def newHist (start : Int) (u : Nat) : Hist :=
  if ((Nat.log2 u : Nat) : Int) < start then [(⟨1, 0, 0, []⟩, .slice none 0 0)]
  else if ((Nat.log2 u : Nat) : Int) = start then [(⟨2, 0, 0, []⟩, .slice none 0 0)] else []

structure NewLay (c : Conf) (L : Lay) : Prop where
  conf : L.c = c
  procs : L.procs = []
  len : L.past.length = 2 ^ (c.depth.toNat + 1)
  hist : ∀ u, 1 ≤ u → u < L.past.length → L.hist u = newHist c.start u
  hist0 : L.hist 0 = []

/-- On the way: the nodes below k have become what they are. -/
structure NewMid (c : Conf) (n k tb : Nat) (L : Lay) : Prop where
  tb : L.tb = tb
  conf : L.c = c
  procs : L.procs = []
  len : L.past.length = n
  hist : ∀ u, 1 ≤ u → u < k → L.hist u = newHist c.start u
  rest : ∀ u, (u = 0 ∨ k ≤ u) → L.hist u = []

theorem NewMid.step {c : Conf} {n k tb : Nat} {L : Lay} (h : NewMid c n k tb L) (hk : 1 ≤ k) (hkn : k < n) (x : Value) (l : Hist) (hl : l = newHist c.start k) : NewMid c n (k + 1) tb { L with past := L.past.set k (x, l) } where
  tb := h.tb
  conf := h.conf
  procs := h.procs
  len := by simpa using h.len
  hist := fun u hu1 hu2 => by
    rw [lay_hist_set _ _ _ _ _ (by rw [h.len]; exact hkn)]
    split
    · next e => rw [hl, e]
    · exact h.hist u hu1 (by omega)
  rest := fun u hu => by
    rw [lay_hist_set _ _ _ _ _ (by rw [h.len]; exact hkn), if_neg (by omega)]
    exact h.rest u (by omega)

theorem NewMid.skip {c : Conf} {n k tb : Nat} {L : Lay} (h : NewMid c n k tb L) (hl : newHist c.start k = []) : NewMid c n (k + 1) tb L :=
  ⟨h.tb, h.conf, h.procs, h.len, fun u h1 h2 => by
    by_cases e : u = k
    · rw [e, hl]; exact h.rest k (by omega)
    · exact h.hist u h1 (by omega), fun u hu => h.rest u (by omega)⟩

theorem mk_slice (n : Nat) (hn : n = 2 ∨ n = 4 ∨ n = 8 ∨ n = 16 ∨ n = 32) (w : World) :
    (Instr.makeSlice 62 (.int .i64 (n : Int)) (.int .i64 (n : Int))).run Tryz.prog w = .ok (.slice (some ⟨w.heap.size, 0, none⟩) n n) (w.alloc (.cells (Array.replicate n (.slice none 0 0)) 91)) := by
  rcases hn with rfl | rfl | rfl | rfl | rfl <;> kernel_rfl

theorem new_row (w : World) (B n : Nat) (hn : n ≤ maxLen) (hB : B ≤ w.heap.size) (o : Obj) : ((w.alloc (.cells (Array.replicate n (.slice none 0 0)) 91)).alloc o).ownsRow B 91 1 (.slice (some ⟨w.heap.size, 0, none⟩) n n) n (List.replicate n (.slice none 0 0)) := by
  refine World.ownsRow.alloc ⟨by simp, Or.inr ⟨w.heap.size, n, Array.replicate n (.slice none 0 0), rfl, hB, nb_alloc _ _ _, Nat.le_refl _, hn, by simp, by simp⟩⟩ o

set_option maxHeartbeats 4000000 in
theorem rnew_no (c : Conf) (w : World) (h : mayC c = false) : Calls Tryz.prog 8 #[confV c] w fun e w' => e = .returned (.pointer none) ∧ Below w.heap.size w w' := by
  have hm := may_c c (w.alloc (.cells #[I c.kind, I c.depth, I c.start, I c.slots, I c.width, I c.spin, I c.drain, I c.procs] 23))
  rw [h] at hm
  unfold confV at hm ⊢
  clear h
  go_enter Tryz.func8, Tryz.ntmps8
  go_wp2_with fail
  refine hm.mono ?_
  rintro e w1 ⟨rfl, hb1⟩
  go_wp2_with fail
  go_ret
  exact ⟨rfl, ((Below.refl _ _).alloc (Nat.le_refl _) _).trans (hb1.mono (by simp))⟩

set_option maxHeartbeats 4000000 in
theorem rnew_yes (c : Conf) (w : World) (h : mayC c = true) : Calls Tryz.prog 8 #[confV c] w fun e w' => ∃ L, e = .returned (.pointer (some ⟨L.tb, 0, none⟩)) ∧ RefRep w' w.heap.size L ∧ NewLay c L ∧ Below w.heap.size w w' := by
  have hm := may_c c (w.alloc (.cells #[I c.kind, I c.depth, I c.start, I c.slots, I c.width, I c.spin, I c.drain, I c.procs] 23))
  rw [h] at hm
  have hc : 0 ≤ c.depth ∧ c.depth ≤ 4 := by simp [mayC] at h; omega
  obtain ⟨d, hd⟩ := Int.eq_ofNat_of_zero_le hc.1
  have hd4 : d ≤ 4 := by omega
  obtain ⟨n, hn⟩ : ∃ n : Nat, n = 2 ^ (d + 1) := ⟨_, rfl⟩
  have hs := sh_small d (by omega)
  rw [← hn] at hs
  have hn5 : n = 2 ∨ n = 4 ∨ n = 8 ∨ n = 16 ∨ n = 32 := by
    have : d = 0 ∨ d = 1 ∨ d = 2 ∨ d = 3 ∨ d = 4 := by omega
    rcases this with rfl | rfl | rfl | rfl | rfl <;> simp_all
  have hmk := mk_slice n hn5
  have hlt : n ≤ 32 := by omega
  have HN : Hid (n = 2 ^ (c.depth.toNat + 1)) := by show n = _; rw [hd]; simpa using hn
  unfold confV at hm ⊢
  clear h hc hn hn5
  obtain ⟨kind, depth, start, slots, width, spin, drain, procs⟩ := c
  simp only at *
  subst hd
  go_enter Tryz.func8, Tryz.ntmps8
  go_wp2_with fail
  refine hm.mono ?_
  rintro e w1 ⟨rfl, hb1⟩
  have nb1 : w1.heap[w.heap.size]? = some (.cells #[I kind, I d, I start, I slots, I width, I spin, I drain, I procs] 23 (0, 0)) := (hb1.block _ (by simp)).trans (nb_alloc _ _ _)
  have hb2 : Below w.heap.size w w1 := ((Below.refl _ _).alloc (Nat.le_refl _) _).trans (hb1.mono (by simp))
  have ls : w.heap.size < w1.heap.size := (Array.getElem?_eq_some_iff.1 nb1).1
  clear hb1 hm
  obtain ⟨f1, _⟩ := nb_facts nb1
  go_wp2_with fail
  go_region
  have hrep0 : RefRep (((w1.alloc (.cells (Array.replicate n (.slice none 0 0)) 91)).alloc (.cells #[I kind, I d, I start, I slots, I width, I spin, I drain, I procs, .slice none 0 0, .slice (some ⟨w1.heap.size, 0, none⟩) n n] 65)).drew) w.heap.size
      ⟨w1.heap.size + 1, ⟨kind, d, start, slots, width, spin, drain, procs⟩, .slice none 0 0, [], .slice (some ⟨w1.heap.size, 0, none⟩) n n, List.replicate n (.slice none 0 0, [])⟩ := by
    constructor
    · have := nb_alloc (w1.alloc (.cells (Array.replicate n (.slice none 0 0)) 91)) #[I kind, I d, I start, I slots, I width, I spin, I drain, I procs, .slice none 0 0, .slice (some ⟨w1.heap.size, 0, none⟩) n n] 65
      have e : (w1.alloc (.cells (Array.replicate n (.slice none 0 0)) 91)).heap.size = w1.heap.size + 1 := by simp
      rw [e] at this
      exact this
    · show w.heap.size ≤ w1.heap.size + 1; omega
    · exact World.ownsRow_nil _ _ _ _
    · intro i hi; simp at hi
    · intro i j hi; simp at hi
    · have := new_row w1 w.heap.size n (by unfold maxLen; omega) (by omega) (.cells #[I kind, I d, I start, I slots, I width, I spin, I drain, I procs, .slice none 0 0, .slice (some ⟨w1.heap.size, 0, none⟩) n n] 65)
      simpa using this.drew
    · intro i hi
      simp only [List.getElem_replicate]
      exact World.ownsRow_nil _ _ _ _
    · intro i hi y hy
      simp at hy
    · intro i j hi hj g hg
      simp [Value.ownBlock] at hg
  have hmid0 : NewMid ⟨kind, d, start, slots, width, spin, drain, procs⟩ n 1 (w1.heap.size + 1)
      ⟨w1.heap.size + 1, ⟨kind, d, start, slots, width, spin, drain, procs⟩, .slice none 0 0, [], .slice (some ⟨w1.heap.size, 0, none⟩) n n, List.replicate n (.slice none 0 0, [])⟩ := by
    refine ⟨rfl, rfl, rfl, by simp, fun u h1 h2 => by omega, fun u _ => ?_⟩
    simp only [Lay.hist, List.getD_eq_getElem?_getD, List.getElem?_replicate]
    split <;> rfl
  have hb3 : Below w.heap.size w (((w1.alloc (.cells (Array.replicate n (.slice none 0 0)) 91)).alloc (.cells #[I kind, I d, I start, I slots, I width, I spin, I drain, I procs, .slice none 0 0, .slice (some ⟨w1.heap.size, 0, none⟩) n n] 65)).drew) :=
    ((hb2.alloc hb2.size _).alloc (by simp; omega) _).drew
  have nb2 : (((w1.alloc (.cells (Array.replicate n (.slice none 0 0)) 91)).alloc (.cells #[I kind, I d, I start, I slots, I width, I spin, I drain, I procs, .slice none 0 0, .slice (some ⟨w1.heap.size, 0, none⟩) n n] 65)).drew).heap[w.heap.size]? = some (.cells #[I kind, I d, I start, I slots, I width, I spin, I drain, I procs] 23 (0, 0)) := by
    show ((w1.alloc _).alloc _).heap[w.heap.size]? = _
    rw [Below.heap_alloc _ _ _ (by simp; omega), Below.heap_alloc _ _ _ ls]
    exact nb1
  rw [hs]
  clear f1 nb1 hb2 hmk hs
  generalize ((w1.alloc (.cells (Array.replicate n (.slice none 0 0)) 91)).alloc (.cells #[I kind, I d, I start, I slots, I width, I spin, I drain, I procs, .slice none 0 0, .slice (some ⟨w1.heap.size, 0, none⟩) n n] 65)).drew = w2 at *
  generalize (⟨w1.heap.size + 1, ⟨kind, d, start, slots, width, spin, drain, procs⟩, .slice none 0 0, [], .slice (some ⟨w1.heap.size, 0, none⟩) n n, List.replicate n (.slice none 0 0, [])⟩ : Lay) = L0 at *
  generalize w1.heap.size + 1 = tb at *
  have hn1 : 1 ≤ n := by have := HN.out; have := Nat.two_pow_pos (Int.toNat (d : Int) + 1); omega
  go_wp2_with fail
  go_loopw [5, 6] (fun i _ wr => ∃ (k : Nat) (L : Lay), 1 ≤ k ∧ k ≤ n ∧ i = .int .i64 k ∧ RefRep wr w.heap.size L ∧ NewMid ⟨kind, d, start, slots, width, spin, drain, procs⟩ n k tb L ∧ Below w.heap.size w wr ∧ wr.heap[w.heap.size]? = some (.cells #[I kind, I d, I start, I slots, I width, I spin, I drain, I procs] 23 (0, 0))) (fun i _ _ => n - (intOf i).toNat)
  case atStart => exact ⟨1, L0, by omega, hn1, rfl, hrep0, hmid0, hb3, nb2⟩
  case round =>
    obtain ⟨k, L, hk1, hk, rfl, hrep, hmid, hbr, hcb⟩ := hrel
    have h9 := hrep.hv_cell
    obtain ⟨ao, cap, e1, q1, q2, q3, hx⟩ := ownsRow_cells hrep.hrow
    rw [e1, hmid.tb, hmid.len] at h9
    clear e1 hx q1 q2
    unfold maxLen at q3
    obtain ⟨f1, _⟩ := nb_facts hcb
    have hsz := hbr.size
    by_cases hkn : k < n
    · have HC : Hid (∀ ev : Ev, ev.items = [] → Calls Tryz.prog 18 #[.pointer (some ⟨tb, 0, none⟩), I k, .agg #[I ev.what, I ev.n, I ev.v, .slice none 0 0]] wr fun e w' => e = .returned (.tuple #[]) ∧ (∃ x, RefRep w' w.heap.size { L with past := L.past.set k (x, [(ev, .slice none 0 0)]) }) ∧ ChgT w.heap.size [91, 69] wr w') := by
        intro ev hev
        have := happens_c hrep hsz k (by rw [hmid.len]; exact hkn) (by rw [hmid.rest k (Or.inr (Nat.le_refl _))]; simp) ev (.slice none 0 0) (by rw [hev]; exact World.ownsRow_nil _ _ _ _)
        rw [hmid.rest k (Or.inr (Nat.le_refl _))] at this
        rw [← hmid.tb]
        exact this
      have hdp := depth_c k (by omega) wr
      by_cases c1 : ((Nat.log2 k : Nat) : Int) < start
      · have hnh : newHist start k = [(⟨1, 0, 0, []⟩, .slice none 0 0)] := by simp [newHist, c1]
        have b2 : (((Nat.log2 k : Nat) : Int) == start) = false := by simp; omega
        have HNH : Hid (newHist start k = [(⟨1, 0, 0, []⟩, .slice none 0 0)]) := hnh
        clear hnh
        go_wp2_with fail
        refine hdp.mono ?_
        rintro e w3 ⟨rfl, rfl⟩
        clear hdp
        go_wp2_with fail
        refine (HC.out ⟨1, 0, 0, []⟩ rfl).mono ?_
        rintro e w4 ⟨rfl, ⟨x, hrep2⟩, hch⟩
        have hcb2 := hch.at hcb (by decide)
        have hbr2 := hbr.trans (hch.below hsz)
        have hmid2 := hmid.step hk1 hkn x _ HNH.out.symm
        clear f1 hcb hch hrep hmid hbr h9
        obtain ⟨f1, _⟩ := nb_facts hcb2
        go_wp2
        go_roundw
        case rel => exact ⟨k + 1, _, by omega, by omega, by go_num, hrep2, hmid2, hbr2, hcb2⟩
        case measure => simp [intOf]; omega
      · by_cases c2 : ((Nat.log2 k : Nat) : Int) = start
        · have hnh : newHist start k = [(⟨2, 0, 0, []⟩, .slice none 0 0)] := by simp [newHist, c2]
          have b1 : decide (((Nat.log2 k : Nat) : Int) < start) = false := by simpa using c1
          have b2 : (((Nat.log2 k : Nat) : Int) == start) = true := by simpa using c2
          have HNH : Hid (newHist start k = [(⟨2, 0, 0, []⟩, .slice none 0 0)]) := hnh
          clear hnh c2
          go_wp2_with fail
          refine hdp.mono ?_
          rintro e w3 ⟨rfl, rfl⟩
          clear hdp
          go_wp2_with fail
          refine (HC.out ⟨2, 0, 0, []⟩ rfl).mono ?_
          rintro e w4 ⟨rfl, ⟨x, hrep2⟩, hch⟩
          have hcb2 := hch.at hcb (by decide)
          have hbr2 := hbr.trans (hch.below hsz)
          have hmid2 := hmid.step hk1 hkn x _ HNH.out.symm
          clear f1 hcb hch hrep hmid hbr h9
          go_wp2
          go_roundw
          case rel => exact ⟨k + 1, _, by omega, by omega, by go_num, hrep2, hmid2, hbr2, hcb2⟩
          case measure => simp [intOf]; omega
        · have hnh : newHist start k = [] := by simp [newHist, c1, c2]
          have b1 : decide (((Nat.log2 k : Nat) : Int) < start) = false := by simpa using c1
          have b2 : (((Nat.log2 k : Nat) : Int) == start) = false := by simpa using c2
          have hmid2 := hmid.skip hnh
          clear hnh c2 HC
          go_wp2_with fail
          refine hdp.mono ?_
          rintro e w3 ⟨rfl, rfl⟩
          clear hdp
          go_wp2
          go_roundw
          case rel => exact ⟨k + 1, L, by omega, by omega, by go_num, hrep, hmid2, hbr, hcb⟩
          case measure => simp [intOf]; omega
    · have e : k = n := by omega
      subst e
      go_wp2
      go_ret
      exact ⟨L, by rw [hmid.tb]; rfl, hrep, ⟨hmid.conf, hmid.procs, by rw [hmid.len]; exact HN.out, fun u h1 h2 => hmid.hist u h1 (by rw [hmid.len] at h2; exact h2), hmid.rest 0 (Or.inl rfl)⟩, hbr⟩

end Go.Proofs.YtjnmpejcegmkhaaGreatDoor
