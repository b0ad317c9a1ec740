/- What a tree of the program is in memory; the contracts of tell, Nodes and Proc. No statement of the seat is proved here. -/
import Derived.Test.YtjnmpejcegmkhaaProg1
import Derived.Deep.RegionWith
namespace Go.Proofs.Ytjnmpejcegmkhaa
open Go.RowKit

/-- A slot: its state, who waits there or was met there, who met it. -/
structure SL where
  st : Int
  wh : Int
  by' : Int

structure PN where
  there : Bool
  inner : Bool
  shut : Bool
  inside : Int
  toggle : Int
  width : Int
  s0 : SL
  s1 : SL
  s2 : SL
  s3 : SL
  puts : Int
  gets : Int
  iv : Value
  items : List (Int × Int)

def PN.slot (n : PN) : Nat → SL
  | 0 => n.s0
  | 1 => n.s1
  | 2 => n.s2
  | _ => n.s3
def PN.st (n : PN) (k : Nat) : Int := (n.slot k).st
def PN.wh (n : PN) (k : Nat) : Int := (n.slot k).wh

def pnCells (n : PN) : List Value := [.bool n.there, .bool n.inner, .bool n.shut, I n.inside, I n.toggle, I n.width, I n.s0.st, I n.s0.wh, I n.s0.by', I n.s1.st, I n.s1.wh, I n.s1.by', I n.s2.st, I n.s2.wh, I n.s2.by', I n.s3.st, I n.s3.wh, I n.s3.by', I n.puts, I n.gets, n.iv]

def zeroSL : SL := ⟨0, 0, 0⟩
def zeroPN : PN := ⟨false, false, false, 0, 0, 0, zeroSL, zeroSL, zeroSL, zeroSL, 0, 0, .slice none 0 0, []⟩
def innerPN : PN := ⟨true, true, false, 0, 0, 1, zeroSL, zeroSL, zeroSL, zeroSL, 0, 0, .slice none 0 0, []⟩
def leafPN : PN := ⟨true, false, false, 0, 0, 0, zeroSL, zeroSL, zeroSL, zeroSL, 0, 0, .slice none 0 0, []⟩

structure PP where
  kind : Int
  oval : Int
  onode : Int
  phase : Int
  node : Int
  val : Int
  width : Int
  slot : Int
  mind : Int
  pat : Int
  ticket : Int
def ppCells (p : PP) : List Value := [I p.kind, I p.oval, I p.onode, I p.phase, I p.node, I p.val, I p.width, I p.slot, I p.mind, I p.pat, I p.ticket]

def zeroPP : PP := ⟨0, 0, 0, 0, 0, 0, 0, 0, 0, 0, 0⟩

structure PLay where
  tb : Nat
  c : Conf
  nodes : List PN
  pv : Value
  procs : List PP

def pConf (c : Conf) : List Value := [I c.kind, I c.depth, I c.start, I c.slots, I c.width, I c.spin, I c.drain, I c.procs]
def pTree (L : PLay) : List Value := pConf L.c ++ (L.nodes.flatMap pnCells ++ [L.pv])

structure PRep (w : World) (B : Nat) (L : PLay) : Prop where
  tree : w.heap[L.tb]? = some (.cells (pTree L).toArray 78 (0, 0))
  treeB : B ≤ L.tb
  len : L.nodes.length = 32
  prow : w.ownsRow B 119 11 L.pv L.procs.length (L.procs.flatMap ppCells)
  items : ∀ v, (hv : v < L.nodes.length) → w.ownsRow B 135 2 (L.nodes[v]).iv (L.nodes[v]).items.length ((L.nodes[v]).items.flatMap fun y => [I y.1, I y.2])
  ind : ∀ u v, (hu : u < L.nodes.length) → (hv : v < L.nodes.length) → ∀ g, (L.nodes[u]).iv.ownBlock = some g → (L.nodes[v]).iv.ownBlock = some g → u = v

theorem PRep.size {w : World} {B : Nat} {L : PLay} (h : PRep w B L) : L.tb < w.heap.size := (Array.getElem?_eq_some_iff.1 h.tree).1

theorem PRep.below {w w' : World} {B : Nat} {L : PLay} (h : PRep w B L) (hb : Below w.heap.size w w') : PRep w' B L where
  tree := by rw [hb.block _ h.size]; exact h.tree
  treeB := h.treeB
  len := h.len
  prow := ownsRow_below h.prow hb (Nat.le_refl _)
  items := fun v hv => ownsRow_below (h.items v hv) hb (Nat.le_refl _)
  ind := h.ind

theorem flat_at {α : Type} (f : α → List Value) (s : Nat) (hs : ∀ x, (f x).length = s) (l : List α) (k : Nat) (hk : k < l.length) (j : Nat) (hj : j < s) : (l.flatMap f)[k * s + j]? = (f l[k])[j]? := by
  induction l generalizing k with
  | nil => simp at hk
  | cons x l ih =>
    have hx := hs x
    cases k with
    | zero =>
      simp only [List.flatMap_cons, Nat.zero_mul, Nat.zero_add, List.getElem_cons_zero]
      rw [List.getElem?_append_left (by omega)]
    | succ k =>
      simp only [List.flatMap_cons, List.getElem_cons_succ]
      rw [List.getElem?_append_right (by rw [hx, Nat.succ_mul]; omega), hx, show (k + 1) * s + j - s = k * s + j from by rw [Nat.succ_mul]; omega]
      exact ih k (by simpa using hk)

theorem flat_length {α : Type} (f : α → List Value) (s : Nat) (hs : ∀ x, (f x).length = s) (l : List α) : (l.flatMap f).length = l.length * s := by
  induction l with
  | nil => simp
  | cons x l ih => simp only [List.flatMap_cons, List.length_append, List.length_cons, ih, hs, Nat.succ_mul]; omega

theorem pn_len (n : PN) : (pnCells n).length = 21 := rfl

/-- The cells of node v. -/
theorem PRep.ncell {w : World} {B : Nat} {L : PLay} (h : PRep w B L) (v : Nat) (hv : v < L.nodes.length) (j : Nat) (hj : j < 21) : w.cell? ⟨L.tb, 8 + v * 21 + j, none⟩ = (pnCells L.nodes[v])[j]? := by
  rw [block_cell h.tree]
  simp only [pTree, List.getElem?_toArray]
  rw [List.getElem?_append_right (by simp [pConf]; omega), List.getElem?_append_left (by rw [flat_length pnCells 21 pn_len]; simp [pConf]; omega)]
  rw [show 8 + v * 21 + j - (pConf L.c).length = v * 21 + j from by simp [pConf]; omega]
  exact flat_at pnCells 21 pn_len L.nodes v hv j hj

theorem PRep.ccell {w : World} {B : Nat} {L : PLay} (h : PRep w B L) (j : Nat) (hj : j < 8) : w.cell? ⟨L.tb, j, none⟩ = (pConf L.c)[j]? := by
  rw [block_cell h.tree]
  simp only [pTree, List.getElem?_toArray]
  rw [List.getElem?_append_left (by simp [pConf]; omega)]

theorem PRep.pcell {w : World} {B : Nat} {L : PLay} (h : PRep w B L) : w.cell? ⟨L.tb, 680, none⟩ = some L.pv := by
  rw [block_cell h.tree]
  simp only [pTree, List.getElem?_toArray]
  have h1 : (pConf L.c).length = 8 := rfl
  have h2 := flat_length pnCells 21 pn_len L.nodes
  rw [h.len] at h2
  rw [List.getElem?_append_right (by omega), List.getElem?_append_right (by omega), h1, h2]
  rfl

def pnode (c : Conf) (v : Nat) (n : PN) : ND :=
  if n.inner then ⟨v, Nat.log2 v, rank v, true, n.shut, n.inside, n.toggle, n.width, whoTo n.st n.wh c.width.toNat, 0, 0, []⟩
  else ⟨v, Nat.log2 v, rank v, false, n.shut, n.inside, 0, 0, [], n.puts, n.gets, pvals n.items⟩

theorem nb_alloc2 (w : World) (o : Obj) (arr : Array Value) (T : TypeId) : ((w.alloc o).alloc (.cells arr T)).drew.heap[w.heap.size + 1]? = some (.cells arr T (0, 0)) := by
  have := nb_alloc (w.alloc o) arr T
  have e : (w.alloc o).heap.size = w.heap.size + 1 := by simp
  rw [e] at this
  exact this

/-- Two rows of numbers and all below B stay while block b, of another type, is written. -/
structure KeepRows (w0 : World) (B b : Nat) (T : TypeId) (x1 : Value) (l1 : List Int) (x2 : Value) (l2 : List Int) (W : World) : Prop where
  blk : ∃ arr, W.heap[b]? = some (.cells arr T (0, 0))
  r1 : W.ownsRow B 3 1 x1 l1.length (l1.map I)
  r2 : W.ownsRow B 3 1 x2 l2.length (l2.map I)
  below : Below B w0 W
  hB : B ≤ b
  hT : T ≠ 3
theorem KeepRows.set {w0 : World} {B b : Nat} {T : TypeId} {x1 : Value} {l1 : List Int} {x2 : Value} {l2 : List Int} {W : World} (h : KeepRows w0 B b T x1 l1 x2 l2 W) (j : Nat) (x : Value) : KeepRows w0 B b T x1 l1 x2 l2 (W.setCell ⟨b, j, none⟩ x) := by
  obtain ⟨⟨arr, hb⟩, h1, h2, h3, h4, h5⟩ := h
  exact ⟨⟨_, nb_set hb j x⟩, ownsRow_setCell_type h1 hb h5 j x, ownsRow_setCell_type h2 hb h5 j x, h3.setCell h4 x, h4, h5⟩

set_option maxHeartbeats 4000000 in
theorem tell_c {w : World} {B : Nat} {L : PLay} (h : PRep w B L) (v : Nat) (hv : v < L.nodes.length) (hw0 : 0 ≤ L.c.width) (hw4 : L.c.width ≤ 4) (hil : (L.nodes[v]).items.length ≤ 1000000000000) :
    Calls Try.prog 38 #[.pointer (some ⟨L.tb, 8 + v * 21, none⟩), I v, I L.c.width] w fun e w' => ∃ wv iv, e = .returned (.agg (ndCells (pnode L.c v L.nodes[v]) wv iv).toArray) ∧
      w'.ownsRow w.heap.size 3 1 wv (pnode L.c v L.nodes[v]).waiting.length ((pnode L.c v L.nodes[v]).waiting.map I) ∧ w'.ownsRow w.heap.size 3 1 iv (pnode L.c v L.nodes[v]).items.length ((pnode L.c v L.nodes[v]).items.map I) ∧ Below w.heap.size w w' := by
  have hlen := h.len
  have hn := fun W (hb : Below w.heap.size w W) j hj => (h.below hb).ncell v hv j hj
  obtain ⟨WD, hWD⟩ := Int.eq_ofNat_of_zero_le hw0
  have hi := fun W (hb : Below w.heap.size w W) => values_c W B L.tb (8 + v * 21) (L.nodes[v]).iv (L.nodes[v]).items ((h.below hb).ncell v hv 20 (by omega)) ((h.below hb).items v hv) hil
  have hwt := fun W (hb : Below w.heap.size w W) => waiting_c W L.tb (8 + v * 21) (L.nodes[v]).st (L.nodes[v]).wh WD (by omega) (fun k hk => by
    have : k = 0 ∨ k = 1 ∨ k = 2 ∨ k = 3 := by omega
    rcases this with rfl | rfl | rfl | rfl
    · exact ⟨(h.below hb).ncell v hv 6 (by omega), (h.below hb).ncell v hv 7 (by omega)⟩
    · exact ⟨(h.below hb).ncell v hv 9 (by omega), (h.below hb).ncell v hv 10 (by omega)⟩
    · exact ⟨(h.below hb).ncell v hv 12 (by omega), (h.below hb).ncell v hv 13 (by omega)⟩
    · exact ⟨(h.below hb).ncell v hv 15 (by omega), (h.below hb).ncell v hv 16 (by omega)⟩)
  have hpl := fun W => place_c v (by omega) W
  have ht := h.size
  have hpn : pnode L.c v L.nodes[v] = if (L.nodes[v]).inner then ⟨v, Nat.log2 v, rank v, true, (L.nodes[v]).shut, (L.nodes[v]).inside, (L.nodes[v]).toggle, (L.nodes[v]).width, whoTo (L.nodes[v]).st (L.nodes[v]).wh WD, 0, 0, []⟩
      else ⟨v, Nat.log2 v, rank v, false, (L.nodes[v]).shut, (L.nodes[v]).inside, 0, 0, [], (L.nodes[v]).puts, (L.nodes[v]).gets, pvals (L.nodes[v]).items⟩ := by
    rw [pnode, hWD]; rfl
  rw [hpn, hWD]
  clear hpn hWD hw0 hw4 hil hlen h
  generalize L.nodes[v] = n at *
  generalize L.tb = tb at *
  replace hn : Hid _ := hn
  replace hi : Hid _ := hi
  replace hwt : Hid _ := hwt
  replace hpl : Hid _ := hpl
  generalize pvals n.items = vl at *
  generalize Nat.log2 v = dep at *
  generalize rank v = rk at *
  obtain ⟨there, inner, shut, inside, toggle, width, s0, s1, s2, s3, puts, gets, iv, items⟩ := n
  simp only at *
  cases inner
  all_goals simp only [if_true, Bool.false_eq_true, if_false]
  all_goals
    go_enter Try.func38, Try.ntmps38
    go_wp2_with fail
    refine (hpl.out _).mono ?_
    rintro e w1 ⟨rfl, rfl⟩
    have hb1 := (Below.refl w.heap.size w).alloc (Nat.le_refl _) (.cells #[I 0, I 0, I 0, .bool false, .bool false, I 0, I 0, I 0, .slice none 0 0, I 0, I 0, .slice none 0 0] 49)
    have c1 := hn.out w (Below.refl _ _) 1 (by omega)
    have c2 := hn.out w (Below.refl _ _) 2 (by omega)
    have c3 := hn.out w (Below.refl _ _) 3 (by omega)
    have c4 := hn.out w (Below.refl _ _) 4 (by omega)
    have c5 := hn.out w (Below.refl _ _) 5 (by omega)
    have c14 := hn.out w (Below.refl _ _) 18 (by omega)
    have c15 := hn.out w (Below.refl _ _) 19 (by omega)
    simp only [pnCells, List.getElem?_cons_succ, List.getElem?_cons_zero] at c1 c2 c3 c4 c5 c14 c15
    go_wp2_with fail
    go_region
    go_wp2_with fail
  · have hb2 : Below w.heap.size w ((w.alloc (.cells #[I 0, I 0, I 0, .bool false, .bool false, I 0, I 0, I 0, .slice none 0 0, I 0, I 0, .slice none 0 0] 49)).alloc (.cells #[I v, I dep, I rk, .bool false, .bool shut, I inside, I 0, I 0, .slice none 0 0, I puts, I gets, .slice none 0 0] 49)).drew := (((Below.refl _ _).alloc (Nat.le_refl _) _).alloc (by simp) _).drew
    refine (hi.out _ hb2).mono ?_
    rintro e w2 ⟨x, rfl, hown, hb3⟩
    have hb4 := hb2.trans (hb3.mono hb2.size)
    have na : w2.heap[w.heap.size]? = some (.cells #[I 0, I 0, I 0, .bool false, .bool false, I 0, I 0, I 0, .slice none 0 0, I 0, I 0, .slice none 0 0] 49 (0, 0)) :=
      (hb3.block _ (by show w.heap.size < ((w.alloc _).alloc _).heap.size; simp; omega)).trans (by show ((w.alloc _).alloc _).heap[w.heap.size]? = _; rw [Below.heap_alloc _ _ _ (by simp)]; exact nb_alloc _ _ _)
    have nc : w2.heap[w.heap.size + 1]? = some (.cells #[I v, I dep, I rk, .bool false, .bool shut, I inside, I 0, I 0, .slice none 0 0, I puts, I gets, .slice none 0 0] 49 (0, 0)) :=
      (hb3.block _ (by show w.heap.size + 1 < ((w.alloc _).alloc _).heap.size; simp)).trans (nb_alloc2 _ _ _ _)
    have hown2 := ownsRow_mono hown hb2.size
    obtain ⟨ao, cp, rfl, _⟩ := ownsRow_cells hown
    clear hb2 hb3 hown c1 c2 c3 c4 c5 c14 c15 hn hi hwt hpl
    have hs1 := (Array.getElem?_eq_some_iff.1 na).1
    have nd := nb_set nc 11 (.slice ao vl.length cp)
    have nae : (w2.setCell ⟨w.heap.size + 1, 11, none⟩ (.slice ao vl.length cp)).heap[w.heap.size]? = _ := (Below.heap_setCell _ _ _ _ (by simp)).trans na
    have hb5 := hb4.setCell (p := ⟨w.heap.size + 1, 11, none⟩) (by simp) (.slice ao vl.length cp)
    have hown3 := ownsRow_setCell_type hown2 nc (by decide) 11 (.slice ao vl.length cp)
    obtain ⟨f1, f2⟩ := nb_facts na
    obtain ⟨g1, g2⟩ := nb_facts nc
    simp only [Array.setIfInBounds] at nd
    have ND : Hid _ := nd
    have NA : Hid _ := nae
    have HO : Hid _ := hown3
    have HB : Hid _ := hb5
    clear nd nae hown3 hb5 hb4 hown2
    have hk : KeepRows w w.heap.size w.heap.size 49 (.slice none 0 0) [] (.slice ao vl.length cp) vl (w2.setCell ⟨w.heap.size + 1, 11, none⟩ (.slice ao vl.length cp)) :=
      ⟨⟨_, NA.out⟩, World.ownsRow_nil _ _ _ _, HO.out, HB.out, Nat.le_refl _, by decide⟩
    replace hk : Hid _ := hk
    go_wp2
    refine bodyPost_ret (v := .agg (ndCells ⟨v, dep, rk, false, shut, inside, 0, 0, [], puts, gets, vl⟩ (.slice none 0 0) (.slice ao vl.length cp)).toArray) (by simp [results, Try.results38, go_sem, ndCells, f1]) rfl ⟨_, _, rfl, ?_⟩
    have hk2 := ((((((((((((hk.out.set 0 (I v)).set 1 (I dep)).set 2 (I rk)).set 3 (.bool false)).set 4 (.bool shut)).set 5 (I inside)).set 6 (I 0)).set 7 (I 0)).set 8 (.slice none 0 0)).set 9 (I puts)).set 10 (I gets)).set 11 (.slice ao vl.length cp))
    exact ⟨hk2.r1, hk2.r2, hk2.below⟩
  · have hb2 : Below w.heap.size w ((w.alloc (.cells #[I 0, I 0, I 0, .bool false, .bool false, I 0, I 0, I 0, .slice none 0 0, I 0, I 0, .slice none 0 0] 49)).alloc (.cells #[I v, I dep, I rk, .bool true, .bool shut, I inside, I toggle, I width, .slice none 0 0, I 0, I 0, .slice none 0 0] 49)).drew := (((Below.refl _ _).alloc (Nat.le_refl _) _).alloc (by simp) _).drew
    refine (hwt.out _ hb2).mono ?_
    rintro e w2 ⟨x, rfl, hown, hb3⟩
    have hb4 := hb2.trans (hb3.mono hb2.size)
    have na : w2.heap[w.heap.size]? = some (.cells #[I 0, I 0, I 0, .bool false, .bool false, I 0, I 0, I 0, .slice none 0 0, I 0, I 0, .slice none 0 0] 49 (0, 0)) :=
      (hb3.block _ (by show w.heap.size < ((w.alloc _).alloc _).heap.size; simp; omega)).trans (by show ((w.alloc _).alloc _).heap[w.heap.size]? = _; rw [Below.heap_alloc _ _ _ (by simp)]; exact nb_alloc _ _ _)
    have nc : w2.heap[w.heap.size + 1]? = some (.cells #[I v, I dep, I rk, .bool true, .bool shut, I inside, I toggle, I width, .slice none 0 0, I 0, I 0, .slice none 0 0] 49 (0, 0)) :=
      (hb3.block _ (by show w.heap.size + 1 < ((w.alloc _).alloc _).heap.size; simp)).trans (nb_alloc2 _ _ _ _)
    have hown2 := ownsRow_mono hown hb2.size
    obtain ⟨ao, cp, rfl, _⟩ := ownsRow_cells hown
    clear hb2 hb3 hown c1 c2 c3 c4 c5 c14 c15 hn hi hwt hpl
    have hs1 := (Array.getElem?_eq_some_iff.1 na).1
    have nd := nb_set nc 8 (.slice ao WD cp)
    have nae : (w2.setCell ⟨w.heap.size + 1, 8, none⟩ (.slice ao WD cp)).heap[w.heap.size]? = _ := (Below.heap_setCell _ _ _ _ (by simp)).trans na
    have hb5 := hb4.setCell (p := ⟨w.heap.size + 1, 8, none⟩) (by simp) (.slice ao WD cp)
    have hown3 := ownsRow_setCell_type hown2 nc (by decide) 8 (.slice ao WD cp)
    obtain ⟨f1, f2⟩ := nb_facts na
    obtain ⟨g1, g2⟩ := nb_facts nc
    simp only [Array.setIfInBounds] at nd
    have ND : Hid _ := nd
    have NA : Hid _ := nae
    have HO : Hid _ := hown3
    have HB : Hid _ := hb5
    clear nd nae hown3 hb5 hb4 hown2
    have hk : KeepRows w w.heap.size w.heap.size 49 (.slice ao WD cp) (whoTo (PN.st ⟨there, true, shut, inside, toggle, width, s0, s1, s2, s3, puts, gets, iv, items⟩) (PN.wh ⟨there, true, shut, inside, toggle, width, s0, s1, s2, s3, puts, gets, iv, items⟩) WD) (.slice none 0 0) [] (w2.setCell ⟨w.heap.size + 1, 8, none⟩ (.slice ao WD cp)) :=
      ⟨⟨_, NA.out⟩, by rw [whoTo_length]; exact HO.out, World.ownsRow_nil _ _ _ _, HB.out, Nat.le_refl _, by decide⟩
    replace hk : Hid _ := hk
    go_wp2
    refine bodyPost_ret (v := .agg (ndCells ⟨v, dep, rk, true, shut, inside, toggle, width, [], 0, 0, []⟩ (.slice ao WD cp) (.slice none 0 0)).toArray) (by simp [results, Try.results38, go_sem, ndCells, f1]) rfl ⟨_, _, rfl, ?_⟩
    have hk2 := ((((((((((((hk.out.set 0 (I v)).set 1 (I dep)).set 2 (I rk)).set 3 (.bool true)).set 4 (.bool shut)).set 5 (I inside)).set 6 (I toggle)).set 7 (I width)).set 8 (.slice ao WD cp)).set 9 (I 0)).set 10 (I 0)).set 11 (.slice none 0 0))
    exact ⟨hk2.r1, hk2.r2, hk2.below⟩

end Go.Proofs.Ytjnmpejcegmkhaa
