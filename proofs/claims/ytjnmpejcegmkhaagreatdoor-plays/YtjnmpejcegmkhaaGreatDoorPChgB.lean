/- Contract of the program's fold. Contract of the program's unfold. Contracts of the program's change and of stepAtTarget in the phase Change. No statement of the seat is proved here. -/
import Derived.Test.YtjnmpejcegmkhaaGreatDoorPChgA
import Derived.Deep.RegionHeld
import Derived.Maps.Own
import Derived.Laws.Runes
namespace Go.Proofs.YtjnmpejcegmkhaaGreatDoor
open Go.RowKit

/-- A node of the program's tree is written whole, with a row of items of its own. -/
theorem PRep.setNode2 {w : World} {B : Nat} {L : PLay} (h : PRep w B L) (v : Nat) (hv : v < L.nodes.length) (n : PN) (hn : w.ownsRow B 148 2 n.iv n.items.length (n.items.flatMap fun y => [I y.1, I y.2]))
    (hnb : ∀ u, (hu : u < L.nodes.length) → u ≠ v → ∀ g, (L.nodes[u]).iv.ownBlock = some g → n.iv.ownBlock = some g → False) :
    PRep (w.setCells L.tb (8 + v * 21) (pnCells n)) B { L with nodes := L.nodes.set v n } where
  tree := by
    show (w.setCells L.tb (8 + v * 21) (pnCells n)).heap[L.tb]? = _
    rw [← pTree_set L v hv n]
    exact block_setCells L.tb (pnCells n) (8 + v * 21) w (pTree L) h.tree
  treeB := h.treeB
  len := by simpa using h.len
  prow := ownsRow_block_kept h.prow h.tree (by decide) fun k hk => heap_setCells _ _ _ _ k hk
  items := fun u hu' => by
    have hu : u < L.nodes.length := by simpa using hu'
    by_cases e : u = v
    · subst e
      simp only [List.getElem_set_self]
      exact ownsRow_block_kept hn h.tree (by decide) fun k hk => heap_setCells _ _ _ _ k hk
    · simp only [List.getElem_set_ne (Ne.symm e)]
      exact ownsRow_block_kept (h.items u hu) h.tree (by decide) fun k hk => heap_setCells _ _ _ _ k hk
  ind := fun a b ha hb g e1 e2 => by
    have ha' : a < L.nodes.length := by simpa using ha
    have hb' : b < L.nodes.length := by simpa using hb
    by_cases ea : a = v
    · by_cases eb : b = v
      · omega
      · subst ea
        simp only [List.getElem_set_self] at e1
        simp only [List.getElem_set_ne (Ne.symm eb)] at e2
        exact (hnb b hb' eb g e2 e1).elim
    · by_cases eb : b = v
      · subst eb
        simp only [List.getElem_set_self] at e2
        simp only [List.getElem_set_ne (Ne.symm ea)] at e1
        exact (hnb a ha' ea g e1 e2).elim
      · simp only [List.getElem_set_ne (Ne.symm ea)] at e1
        simp only [List.getElem_set_ne (Ne.symm eb)] at e2
        exact h.ind a b ha' hb' g e1 e2

theorem PRep.range {w : World} {B : Nat} {L : PLay} (h : PRep w B L) (v : Nat) (hv : v < L.nodes.length) : w.rangeAt L.tb (8 + v * 21) (pnCells L.nodes[v]) := fun j x hx => by
  have hj : j < 21 := by
    have := (List.getElem?_eq_some_iff.1 hx).1
    rw [pn_len] at this
    exact this
  rw [h.ncell v hv j hj]
  exact hx

/-- A struct in a box of its own. -/
theorem boxed (w : World) (Z : Array Value) (T : TypeId) (xs : List Value) (hZ : Z.size = xs.length) :
    ((w.alloc (.cells Z T)).setCells w.heap.size 0 xs).heap[w.heap.size]? = some (.cells xs.toArray T (0, 0)) ∧ Below w.heap.size w ((w.alloc (.cells Z T)).setCells w.heap.size 0 xs) ∧ ((w.alloc (.cells Z T)).setCells w.heap.size 0 xs).heap.size = w.heap.size + 1 := by
  have hb : (w.alloc (.cells Z T)).heap[w.heap.size]? = some (.cells Z.toList.toArray T (0, 0)) := (MapKept.heap_alloc w _).1
  refine ⟨?_, below_setCells _ (Nat.le_refl _) _ _ _ ((Below.refl _ _).alloc (Nat.le_refl _) _), ?_⟩
  · have := block_setCells w.heap.size xs 0 _ Z.toList hb
    have e := setSeg_mid [] Z.toList [] xs (by simpa using hZ)
    simp only [List.nil_append, List.append_nil, List.length_nil] at e
    rw [e] at this
    exact this
  · have : ∀ (xs : List Value) (o : Nat) (W : World), (W.setCells w.heap.size o xs).heap.size = W.heap.size := by
      intro xs
      induction xs with
      | nil => intro o W; rfl
      | cons x r ih => intro o W; simp only [World.setCells]; rw [ih]; simp [World.setCell]
    rw [this]
    simp

theorem there_new (w : World) (Z : Array Value) (T : TypeId) (k : Nat) (hZ : Z.size = k) : (w.alloc (.cells Z T)).there w.heap.size 0 k := by
  intro j hj
  have hb : (w.alloc (.cells Z T)).heap[w.heap.size]? = some (.cells Z T (0, 0)) := (MapKept.heap_alloc w _).1
  obtain ⟨a, b⟩ := nb_facts hb
  refine ⟨?_, b _⟩
  rw [Nat.zero_add, a]
  simp [hZ, hj]

theorem Tryz.isz57 (n : PN) : (Tryz.prog.info? 57).map (·.size) = some (pnCells n).length := by rw [pn_len]; exact Tryz.size57

theorem Tryz.row57 : (Tryz.prog.underlying 57).map (·.isRow) = some true := by kernel_rfl
theorem und_parts {P : Program} {T : TypeId} (h : (P.underlying T).map (·.isRow) = some true) : ∃ d, P.underlying T = some d ∧ d.isRow = true := by
  cases hd : P.underlying T with
  | none => rw [hd] at h; simp at h
  | some d => rw [hd] at h; exact ⟨d, rfl, by simpa using h⟩

/-- A node has been copied into a box of its own. -/
structure Boxed (W w1 : World) (n : PN) : Prop where
  blk : w1.heap[W.heap.size]? = some (.cells (pnCells n).toArray 57 (0, 0))
  bel : Below W.heap.size W w1
  size : w1.heap.size = W.heap.size + 1

theorem store_box {ops : Array Oper} {rest : List Oper} {op : Oper} {a : Act} {W : World} {Q : Exit → Act → World → Prop} (hgd : op.guard = none) (x y : Operand) (ho : op.op = .store 57 x y) (n : PN) (Z : Array Value)
    (hx : a.eval x = .pointer (some ⟨W.heap.size, 0, none⟩)) (hy : a.eval y = .agg (pnCells n).toArray) (hZ : Z.size = 21) (h1 : (pnCells n).toArray.all (·.oneCell') = true)
    (h : ∀ w1, Boxed W w1 n → wpList Tryz.prog ops Q rest (a.put op.dst undef) w1) : wpList Tryz.prog ops Q (op :: rest) a (W.alloc (.cells Z 57)) := by
  obtain ⟨x1, x2, x3⟩ := boxed W Z 57 (pnCells n) (by rw [hZ]; rfl)
  exact wpList_store_mid hgd _ x y ho W.heap.size 0 (pnCells n).toArray hx hy (there_new W Z _ 21 hZ) (by rw [pn_size]; exact Tryz.size57) h1 (h _ ⟨x1, x2, x3⟩)

/-- A node has been written into the tree. -/
structure Wrote (W w1 : World) (B : Nat) (L : PLay) (v : Nat) (n : PN) : Prop where
  rep : PRep w1 B { L with nodes := L.nodes.set v n }
  heap : ∀ k, k ≠ L.tb → w1.heap[k]? = W.heap[k]?
  chg : ChgT B [61] W w1
  size : w1.heap.size = W.heap.size

theorem setCells_size (b : Nat) : ∀ (xs : List Value) (o : Nat) (W : World), (W.setCells b o xs).heap.size = W.heap.size
  | [], _, _ => rfl
  | x :: r, o, W => by simp only [World.setCells]; rw [setCells_size b r]; simp [World.setCell]
theorem setCells_chg {B : Nat} {T : List TypeId} (b : Nat) (hB : B ≤ b) (Ty : TypeId) (hT : Ty ∈ T) : ∀ (xs : List Value) (o : Nat) (W : World) (l : List Value), W.heap[b]? = some (.cells l.toArray Ty (0, 0)) → ChgT B T W (W.setCells b o xs)
  | [], _, _, _, _ => ChgT.refl _ _ _
  | x :: r, o, W, l, h => by
    simp only [World.setCells]
    have h1 := nb_set h o x
    refine (ChgT.cell h hB hT o x).trans (setCells_chg b hB Ty hT r (o + 1) _ (l.set o x) ?_)
    simpa using h1

theorem PRep.wrote {W : World} {B : Nat} {L : PLay} (h : PRep W B L) (v : Nat) (hv : v < L.nodes.length) (n : PN) (hn : W.ownsRow B 148 2 n.iv n.items.length (n.items.flatMap fun y => [I y.1, I y.2]))
    (hnb : ∀ u, (hu : u < L.nodes.length) → u ≠ v → ∀ g, (L.nodes[u]).iv.ownBlock = some g → n.iv.ownBlock = some g → False) : Wrote W (W.setCells L.tb (8 + v * 21) (pnCells n)) B L v n :=
  ⟨h.setNode2 v hv n hn hnb, fun k hk => heap_setCells _ _ _ _ k hk, setCells_chg L.tb h.treeB _ (by simp) _ _ _ _ h.tree, setCells_size _ _ _ _⟩

theorem store_node {ops : Array Oper} {rest : List Oper} {op : Oper} {a : Act} {W : World} {Q : Exit → Act → World → Prop} (hgd : op.guard = none) (x y : Operand) (ho : op.op = .store 57 x y) {B : Nat} {L : PLay} (h : PRep W B L) (v : Nat) (hv : v < L.nodes.length) (n : PN)
    (hx : a.eval x = .pointer (some ⟨L.tb, 8 + v * 21, none⟩)) (hy : a.eval y = .agg (pnCells n).toArray) (h1 : (pnCells n).toArray.all (·.oneCell') = true) (hn : W.ownsRow B 148 2 n.iv n.items.length (n.items.flatMap fun y => [I y.1, I y.2]))
    (hnb : ∀ u, (hu : u < L.nodes.length) → u ≠ v → ∀ g, (L.nodes[u]).iv.ownBlock = some g → n.iv.ownBlock = some g → False)
    (hk : ∀ w1, Wrote W w1 B L v n → wpList Tryz.prog ops Q rest (a.put op.dst undef) w1) : wpList Tryz.prog ops Q (op :: rest) a W :=
  wpList_store_mid hgd _ x y ho L.tb (8 + v * 21) (pnCells n).toArray hx hy (h.there v hv) (by rw [pn_size]; exact Tryz.size57) h1 (hk _ (h.wrote v hv n hn hnb))

theorem load_node {ops : Array Oper} {rest : List Oper} {op : Oper} {a : Act} {W : World} {Q : Exit → Act → World → Prop} (hgd : op.guard = none) (x : Operand) (ho : op.op = .load 57 x) {B : Nat} {L : PLay} (h : PRep W B L) (v : Nat) (hv : v < L.nodes.length) (n : PN) (he : L.nodes[v] = n)
    (hx : a.eval x = .pointer (some ⟨L.tb, 8 + v * 21, none⟩)) (hk : wpList Tryz.prog ops Q rest (a.put op.dst (.agg (pnCells n).toArray)) W) : wpList Tryz.prog ops Q (op :: rest) a W := by
  obtain ⟨ud, hu1, hu2⟩ := und_parts Tryz.row57
  subst he
  exact wpList_load_mid hgd _ x ho L.tb (8 + v * 21) hx _ ud (h.range v hv) hu1 hu2 (Tryz.isz57 _) hk

/-- A node is copied out of its box into the tree, in whatever order that is done. -/
abbrev CopyS (tb o b : Nat) (n : PN) (W : World) : Prop := W.rangeAt b 0 (pnCells n) ∧ W.there tb o 21

theorem copyS {W : World} {B : Nat} {L : PLay} (h : PRep W B L) (v : Nat) (hv : v < L.nodes.length) (b : Nat) (n : PN) (hb : W.heap[b]? = some (.cells (pnCells n).toArray 57 (0, 0))) : CopyS L.tb (8 + v * 21) b n W := by
  refine ⟨fun j x hx => ?_, h.there v hv⟩
  rw [Nat.zero_add, (nb_facts hb).1]
  simpa using hx

theorem take_at {P : Program} {ops : Array Oper} {Q : Exit → Act → World → Prop} {md : Region.Mode} {S : World → Prop} (i k : Nat) (v : Value) {oi : Oper} {fuel : Nat} {listed : Array Bool} {a : Act} {w : World} (hi : ops[i]? = some oi) (hd : oi.dst = some k)
    (hs : Region.noSelect ops = true) (hf : Region.free md ops listed i = true) (hr : (Region.ready md ops listed).contains i = true)
    (hQ : ∀ c a w, Q (.panic c) (a.put (some k) v) w → Q (.panic c) a w) (hy : YieldsIf P ops S oi v a) (hS : S w)
    (h : wpAnyH P md ops Q S fuel (listed.setIfInBounds i true) (a.put (some k) v) w) : wpAnyH P md ops Q S (fuel + 1) listed a w := by
  rw [← hd] at hQ h
  exact wpAnyH_take hi hs hf hr hQ hy hS h

theorem run_nodes (ev : Operand → Value) (op : Oper) (x : Operand) (ho : op.op = .fieldAddr 61 x 1) (tb : Nat) (hx : ev x = .pointer (some ⟨tb, 0, none⟩)) (W : World) : (execOp ev op).run Tryz.prog W = .ok (.value (.pointer (some ⟨tb, 8, none⟩))) W := by
  unfold execOp
  simp only [ho, hx]
  go_simp
theorem run_node (ev : Operand → Value) (op : Oper) (x y : Operand) (ho : op.op = .indexAddr 58 x y) (tb v : Nat) (hx : ev x = .pointer (some ⟨tb, 8, none⟩)) (hy : ev y = I v) (hv : v < 32) (W : World) : (execOp ev op).run Tryz.prog W = .ok (.value (.pointer (some ⟨tb, 8 + v * 21, none⟩))) W := by
  unfold execOp
  simp only [ho, hx, hy]
  go_simp
  intro h
  omega

abbrev wholePN (ins : Int) : PN := { leafPN with inside := ins }

/-- What fold leaves behind. -/
abbrev foldPN (L : PLay) (v : Nat) (z : Value) : PN := if L.c.kind = 0 then { wholePN (L.nodes.getD v zeroPN).inside with puts := (L.nodes.getD (2 * v) zeroPN).puts + (L.nodes.getD (2 * v + 1) zeroPN).puts } else (wholePN (L.nodes.getD v zeroPN).inside).full z (inTurn (pvals (L.nodes.getD (2 * v) zeroPN).items) (pvals (L.nodes.getD (2 * v + 1) zeroPN).items))
def FoldPost (B : Nat) (L : PLay) (v : Nat) (w w' : World) : Prop :=
  (∃ z, PRep w' B { L with nodes := ((L.nodes.set v (foldPN L v z)).set (2 * v) zeroPN).set (2 * v + 1) zeroPN }) ∧ ChgT B [61] w w'

set_option maxHeartbeats 4000000 in
set_option maxRecDepth 100000 in
theorem pfold_c {w : World} {B : Nat} {L : PLay} (h : PRep w B L) (hB : B ≤ w.heap.size) (v : Nat) (hv1 : 1 ≤ v) (hv : 2 * v + 1 < 32) (hv' : v < L.nodes.length) (h0' : 2 * v < L.nodes.length) (h1' : 2 * v + 1 < L.nodes.length)
    (hk : L.c.kind = 0 ∨ L.c.kind = 1) (hp0 : 0 ≤ (L.nodes[2 * v]).puts ∧ (L.nodes[2 * v]).puts ≤ 1000000) (hp1 : 0 ≤ (L.nodes[2 * v + 1]).puts ∧ (L.nodes[2 * v + 1]).puts ≤ 1000000) (hi0 : (L.nodes[2 * v]).items.length ≤ 1000000) (hi1 : (L.nodes[2 * v + 1]).items.length ≤ 1000000) :
    Calls Tryz.prog 119 #[.pointer (some ⟨L.tb, 0, none⟩), I v] w fun e w' => e = .returned (.tuple #[]) ∧ FoldPost B L v w w' := by
  have r0 := h.range (2 * v) h0'
  have r1 := h.range (2 * v + 1) h1'
  have d3 := h.ncell v hv' 3 (by omega)
  have k0 := h.ccell 0 (by omega)
  simp only [pnCells, pConf, List.getElem?_cons_succ, List.getElem?_cons_zero] at d3 k0
  have hsz := h.size
  have p0 := pn_one L.nodes[2 * v] (by obtain ⟨ao, cap, e, _⟩ := ownsRow_cells (h.items (2 * v) h0'); exact ⟨_, _, _, e⟩)
  have p1 := pn_one L.nodes[2 * v + 1] (by obtain ⟨ao, cap, e, _⟩ := ownsRow_cells (h.items (2 * v + 1) h1'); exact ⟨_, _, _, e⟩)
  have it0 := h.items (2 * v) h0'
  have it1 := h.items (2 * v + 1) h1'
  have g0 : L.nodes.getD (2 * v) zeroPN = L.nodes[2 * v] := by simp [List.getD_eq_getElem?_getD, List.getElem?_eq_getElem h0']
  have g1 : L.nodes.getD (2 * v + 1) zeroPN = L.nodes[2 * v + 1] := by simp [List.getD_eq_getElem?_getD, List.getElem?_eq_getElem h1']
  have gv : L.nodes.getD v zeroPN = L.nodes[v] := by simp [List.getD_eq_getElem?_getD, List.getElem?_eq_getElem hv']
  generalize hz0 : L.nodes[2 * v] = z0 at *
  generalize hz1 : L.nodes[2 * v + 1] = z1 at *
  generalize hnv : L.nodes[v] = nv at *
  have R : ∀ W, Below w.heap.size w W → PRep W B L := fun W hb => h.below hb
  replace g0 : Hid _ := g0
  replace g1 : Hid _ := g1
  replace gv : Hid _ := gv
  have KR : Hid (∀ W, Below w.heap.size w W → W.cell? ⟨L.tb, 8 + v * 21 + 3, none⟩ = some (I nv.inside) ∧ W.cell? ⟨L.tb, 0, none⟩ = some (I L.c.kind)) := fun W hb => ⟨(hb.cell (p := ⟨L.tb, 8 + v * 21 + 3, none⟩) hsz).trans d3, (hb.cell (p := ⟨L.tb, 0, none⟩) hsz).trans k0⟩
  replace R : Hid _ := R
  have P0 : Hid _ := p0
  have P1 : Hid _ := p1
  have PW : Hid (∀ x : Int, (pnCells (wholePN x)).toArray.all (·.oneCell') = true) := fun x => pn_one _ ⟨_, _, _, rfl⟩
  clear r0 r1 p0 p1 d3 k0
  obtain ⟨ud, hu1, hu2⟩ := und_parts Tryz.row57
  go_enter Tryz.func119, Tryz.ntmps119
  go_wp2_with (first | (with_reducible refine load_node rfl (.tmp 14) rfl (R.out w (Below.refl _ _)) (2 * v) h0' z0 hz0 ?hx0 ?_) | (with_reducible refine store_box rfl (.tmp 4) (.tmp 15) rfl z0 _ ?sx0 ?sy0 ?st0 P0.out ?_))
  case hx0 => rfl
  case sx0 => rfl
  case sy0 => rfl
  case st0 => rfl
  intro w1 x1
  have hb1 := x1.bel
  go_wp2_with (first | (with_reducible refine load_node rfl (.tmp 22) rfl (R.out w1 hb1) (2 * v + 1) h1' z1 hz1 ?hx1 ?_) | (with_reducible refine store_box rfl (.tmp 5) (.tmp 23) rfl z1 _ ?sx1 ?sy1 ?st1 P1.out ?_))
  case hx1 => rfl
  case sx1 => rfl
  case sy1 => rfl
  case st1 => rfl
  intro w2 x2
  have hb2 : Below w.heap.size w w2 := hb1.trans (x2.bel.mono hb1.size)
  have c3 := (KR.out w2 hb2).1
  go_wp2_with (with_reducible refine store_box rfl (.tmp 6) (.tmp 31) rfl (wholePN nv.inside) _ ?sx2 ?sy2 ?st2 (PW.out _) ?_)
  case sx2 => rfl
  case sy2 => rfl
  case st2 => rfl
  intro w3 x3
  have hb3 : Below w.heap.size w w3 := hb2.trans (x3.bel.mono hb2.size)
  have c0 := (KR.out w3 hb3).2
  have s1 := x1.size
  have s2 := x2.size
  have s3 := x3.size
  have q0 : w3.heap[w.heap.size]? = some (.cells (pnCells z0).toArray 57 (0, 0)) := by rw [x3.bel.block _ (by omega), x2.bel.block _ (by omega)]; exact x1.blk
  have q1 : w3.heap[w1.heap.size]? = some (.cells (pnCells z1).toArray 57 (0, 0)) := by rw [x3.bel.block _ (by omega)]; exact x2.blk
  have q2 := x3.blk
  clear c3
  have l01 : w.heap.size < w1.heap.size := by omega
  have l12 : w1.heap.size < w2.heap.size := by omega
  have l23 : w2.heap.size < w3.heap.size := by omega
  have f0 := (nb_facts q0).1 18
  have f1 := (nb_facts q1).1 18
  have f2 := (nb_facts q2).1 18
  have fz := (nb_facts q2).2 18
  simp only [pnCells, List.getElem?_toArray, List.getElem?_cons_succ, List.getElem?_cons_zero] at f0 f1 f2
  have TL : Hid (∀ (W : World) (n2 : PN), Below w.heap.size w W → W.heap[w2.heap.size]? = some (.cells (pnCells n2).toArray 57 (0, 0)) → W.ownsRow w.heap.size 148 2 n2.iv n2.items.length (n2.items.flatMap fun y => [I y.1, I y.2]) → (pnCells n2).toArray.all (·.oneCell') = true →
      CopyS L.tb (8 + v * 21) w2.heap.size n2 W.drew ∧ CopyS L.tb (8 + v * 21) w2.heap.size n2 (W.drew.setCells L.tb (8 + v * 21) (pnCells n2)) ∧ Wrote W.drew (W.drew.setCells L.tb (8 + v * 21) (pnCells n2)) B L v n2 ∧ ChgT B [61] w W.drew) := by
    intro W n2 hb hq hrow h1
    have hbd : Below w.heap.size w W.drew := hb.drew
    have hR := h.below hbd
    have hwr := hR.wrote v hv' n2 (ownsRow_mono hrow hB) (fun u hu hne g e1 e2 => by
      have a1 := ((h.items u hu).lt g e1).2
      have a2 := (hrow.lt g e2).1
      omega)
    refine ⟨copyS hR v hv' _ n2 hq, ?_, hwr, ChgT.of_below hbd⟩
    have := copyS hwr.rep v (by simpa using hv') w2.heap.size n2 (by rw [hwr.heap _ (by omega)]; exact hq)
    exact this
  replace q0 : Hid _ := q0
  replace q1 : Hid _ := q1
  replace q2 : Hid _ := q2
  replace hb3 : Hid _ := hb3
  have ZZ : Hid ((pnCells zeroPN).toArray.all (·.oneCell') = true) := pn_one _ ⟨_, _, _, rfl⟩
  have hbw2 : w.heap.size ≤ w2.heap.size := by omega
  clear s1 s2 s3 x1 x2 x3 hb1 hb2
  rcases hk with hk | hk
  · rw [hk] at c0
    replace hk : Hid _ := hk
    have l13 : w1.heap.size ≠ w2.heap.size := by omega
    go_wp2_with fail
    have hb4 : Below w.heap.size w (w3.setCell ⟨w2.heap.size, 18, none⟩ (I (z0.puts + z1.puts))) := hb3.out.setCell hbw2 _
    have hq4 : (w3.setCell ⟨w2.heap.size, 18, none⟩ (I (z0.puts + z1.puts))).heap[w2.heap.size]? = some (.cells (pnCells { wholePN nv.inside with puts := z0.puts + z1.puts }).toArray 57 (0, 0)) := nb_set q2.out 18 _
    obtain ⟨k1, k2, hw, hch⟩ := TL.out _ { wholePN nv.inside with puts := z0.puts + z1.puts } hb4 hq4 (World.ownsRow_nil _ _ _ _) (pn_one _ ⟨_, _, _, rfl⟩)
    have hp2 : Hid ((pnCells { wholePN nv.inside with puts := z0.puts + z1.puts }).toArray.all (·.oneCell') = true) := pn_one _ ⟨_, _, _, rfl⟩
    replace k1 : Hid _ := k1
    replace k2 : Hid _ := k2
    replace hw : Hid _ := hw
    replace hch : Hid _ := hch
    clear hb4 hq4 TL hb3 q0 q1 q2 f0 f1 f2 fz c0
    generalize hn2 : ({ wholePN nv.inside with puts := z0.puts + z1.puts } : PN) = n2 at *
    generalize w3.setCell ⟨w2.heap.size, 18, none⟩ (Value.int IntKind.i64 (z0.puts + z1.puts)) = w4 at *
    refine wp_region_held_drew (S := fun W => CopyS L.tb (8 + v * 21) w2.heap.size n2 W) (by kernel_rfl) k1.out (fun hHeld => ?_)
    refine take_at 0 49 (.pointer (some ⟨L.tb, 0, none⟩)) rfl rfl (by kernel_rfl) (by kernel_rfl) (by kernel_rfl) (fun _ _ _ h => h) (Or.inl ⟨by rfl, fun _ _ => by rfl⟩) hHeld ?_
    simp only [Act.put, List.setIfInBounds_toArray, List.set_cons_succ]
    refine take_at 1 50 (I v) rfl rfl (by kernel_rfl) (by kernel_rfl) (by kernel_rfl) (fun _ _ _ h => h) (Or.inl ⟨by rfl, fun _ _ => by rfl⟩) hHeld ?_
    simp only [Act.put, List.setIfInBounds_toArray, List.set_cons_succ]
    refine take_at 2 51 (.agg (pnCells n2).toArray) rfl rfl (by kernel_rfl) (by kernel_rfl) (by kernel_rfl) (fun _ _ _ h => h) (yieldsIf_load_mid (by rfl) _ _ rfl _ _ rfl _ ud (fun _ hS => hS.1) hu1 hu2 (Tryz.isz57 n2)) hHeld ?_
    simp only [Act.put, List.setIfInBounds_toArray, List.set_cons_succ]
    refine take_at 3 52 (.pointer (some ⟨L.tb, 0, none⟩)) rfl rfl (by kernel_rfl) (by kernel_rfl) (by kernel_rfl) (fun _ _ _ h => h) (Or.inl ⟨by rfl, fun _ _ => by rfl⟩) hHeld ?_
    simp only [Act.put, List.setIfInBounds_toArray, List.set_cons_succ]
    refine take_at 4 53 (.pointer (some ⟨L.tb, 8, none⟩)) rfl rfl (by kernel_rfl) (by kernel_rfl) (by kernel_rfl) (fun _ _ _ h => h) (Or.inl ⟨by rfl, fun W _ => run_nodes _ _ _ rfl L.tb rfl W⟩) hHeld ?_
    simp only [Act.put, List.setIfInBounds_toArray, List.set_cons_succ]
    refine take_at 5 54 (.pointer (some ⟨L.tb, 8 + v * 21, none⟩)) rfl rfl (by kernel_rfl) (by kernel_rfl) (by kernel_rfl) (fun _ _ _ h => h) (Or.inl ⟨by rfl, fun W _ => run_node _ _ _ _ rfl L.tb v rfl rfl (by omega) W⟩) hHeld ?_
    simp only [Act.put, List.setIfInBounds_toArray, List.set_cons_succ]
    refine wpAnyH_ready (rs := [6]) (by kernel_rfl) (by simp) ?_
    refine AllReadyH.cons rfl (fun K hK => ?_) AllReadyH.nil
    rw [if_pos (by rfl)]
    refine wp_store_mid _ _ _ rfl L.tb (8 + v * 21) (pnCells n2).toArray rfl rfl hHeld.2 (by rw [pn_size]; exact Tryz.size57) hp2.out ?_
    refine hK.out _ _ k2.out (fun hHeld => ?_)
    refine wpAnyH_done (by kernel_rfl) ?_ _
    simp only [Act.put]
    replace hw := hw.out
    clear hHeld hK k1 k2
    have ew5 : w4.drew.setCells L.tb (8 + v * 21) (pnCells n2).toArray.toList = w4.drew.setCells L.tb (8 + v * 21) (pnCells n2) := rfl
    rw [ew5]
    clear ew5
    generalize w4.drew.setCells L.tb (8 + v * 21) (pnCells n2) = w5 at *
    have HR5 : Hid _ := hw.rep
    have hl5 : 2 * v < (L.nodes.set v n2).length := by simpa using h0'
    go_wp2_with (with_reducible refine store_node rfl (.tmp 61) (.tmp 58) rfl HR5.out (2 * v) hl5 zeroPN ?zx0 ?zy0 ZZ.out (World.ownsRow_nil _ _ _ _) (fun _ _ _ _ _ e => by simp [zeroPN, Value.ownBlock] at e) ?_)
    case zy0 => rfl
    intro w6 hw6
    have HR6 : Hid _ := hw6.rep
    have hl6 : 2 * v + 1 < ((L.nodes.set v n2).set (2 * v) zeroPN).length := by simpa using h1'
    go_wp2_with (with_reducible refine store_node rfl (.tmp 69) (.tmp 66) rfl HR6.out (2 * v + 1) hl6 zeroPN ?zx1 ?zy1 ZZ.out (World.ownsRow_nil _ _ _ _) (fun _ _ _ _ _ e => by simp [zeroPN, Value.ownBlock] at e) ?_)
    case zy1 => rfl
    intro w7 hw7
    go_wp2_with fail
    go_end0
    refine ⟨rfl, ⟨⟨.slice none 0 0, ?_⟩, ((hch.out.trans hw.chg).trans hw6.chg).trans hw7.chg⟩⟩
    have hfin := hw7.rep
    rw [← hn2] at hfin
    show PRep w7 B { L with nodes := ((L.nodes.set v (foldPN L v _)).set (2 * v) zeroPN).set (2 * v + 1) zeroPN }
    unfold foldPN
    rw [if_pos hk.out, g0.out, g1.out, gv.out]
    exact hfin
  · rw [hk] at c0
    replace hk : Hid _ := hk
    have b0 : ((1 : Int) == 0) = false := rfl
    have v0 := (nb_facts q0.out).1 20
    have v1 := (nb_facts q1.out).1 20
    simp only [pnCells, List.getElem?_toArray, List.getElem?_cons_succ, List.getElem?_cons_zero] at v0 v1
    have HV0 := values_c w3 B w.heap.size 0 z0.iv z0.items (by simpa using v0) (ownsRow_below it0 hb3.out (Nat.le_refl _)) (by omega)
    have HV1 : Hid (∀ W, Below w3.heap.size w3 W → _) := fun W (hb : Below w3.heap.size w3 W) => values_c W B w1.heap.size 0 z1.iv z1.items (by rw [hb.cell (p := ⟨w1.heap.size, 0 + 20, none⟩) (show w1.heap.size < w3.heap.size by omega)]; simpa using v1) (ownsRow_below (ownsRow_below it1 hb3.out (Nat.le_refl _)) hb (Nat.le_refl _)) (by omega)
    replace HV0 : Hid _ := HV0
    have lp0 : (pvals z0.items).length ≤ 1000000 := Nat.le_trans (by simp only [pvals, List.length_map]; exact List.length_filter_le _ _) hi0
    have lp1 : (pvals z1.items).length ≤ 1000000 := Nat.le_trans (by simp only [pvals, List.length_map]; exact List.length_filter_le _ _) hi1
    have HT : Hid (∀ W xv yv C1 C2, Below w3.heap.size w3 W → W.ownsRow C1 3 1 xv (pvals z0.items).length ((pvals z0.items).map I) → W.ownsRow C2 3 1 yv (pvals z1.items).length ((pvals z1.items).map I) →
        Calls Tryz.prog 126 #[.pointer (some ⟨w2.heap.size, 0, none⟩), xv, yv] W fun e w' => e = .returned (.tuple #[]) ∧ ∃ z, NB w' w2.heap.size w2.heap.size ((wholePN nv.inside).full z (inTurn (pvals z0.items) (pvals z1.items))) ∧ Below w.heap.size w w') := by
      intro W xv yv C1 C2 hb hx hy
      have hnb : NB W w2.heap.size w2.heap.size (wholePN nv.inside) := ⟨by rw [hb.block _ l23]; exact q2.out, World.ownsRow_nil _ _ _ _, Nat.le_refl _⟩
      refine (layInTurn_c hnb rfl rfl (by have := hb.size; omega) (pvals z0.items) (pvals z1.items) xv yv hx hy lp0 lp1).mono ?_
      rintro e w' ⟨rfl, z, a1, a2⟩
      have hbW : Below w.heap.size w W := hb3.out.trans (hb.mono hb3.out.size)
      exact ⟨rfl, z, a1, hbW.trans ((a2.below (by have := hb.size; omega)).mono hbw2)⟩
    clear v0 v1 it0 it1 q0 q1 f0 f1 f2 fz
    go_wp2_with fail
    refine Calls.mono HV0.out ?_
    rintro e wa ⟨xv, rfl, hxa, hba⟩
    clear HV0
    go_wp2_with fail
    refine Calls.mono (HV1.out _ hba) ?_
    rintro e wb ⟨yv, rfl, hyb, hbb⟩
    have hxb := ownsRow_below hxa hbb (Nat.le_refl _)
    have hbab : Below w3.heap.size w3 wb := hba.trans (hbb.mono hba.size)
    have hT := HT.out wb xv yv _ _ hbab hxb hyb
    replace hT : Hid _ := hT
    clear HV1 HT hxa hyb hxb hba hbb hbab hb3 q2 c0
    go_wp2_with fail
    refine Calls.mono hT.out ?_
    rintro e w4 ⟨rfl, z, hnb, hb4⟩
    clear hT
    go_wp2_with fail
    obtain ⟨k1, k2, hw, hch⟩ := TL.out w4 _ hb4 hnb.blk (ownsRow_mono hnb.row hbw2) (pn_one _ (by obtain ⟨ao, cap, e, _⟩ := ownsRow_cells hnb.row; exact ⟨_, _, _, e⟩))
    have hp2 : Hid ((pnCells ((wholePN nv.inside).full z (inTurn (pvals z0.items) (pvals z1.items)))).toArray.all (·.oneCell') = true) := pn_one _ (by obtain ⟨ao, cap, e, _⟩ := ownsRow_cells hnb.row; exact ⟨_, _, _, e⟩)
    replace k1 : Hid _ := k1
    replace k2 : Hid _ := k2
    replace hw : Hid _ := hw
    replace hch : Hid _ := hch
    clear hb4 TL hnb
    generalize hn2 : (wholePN nv.inside).full z (inTurn (pvals z0.items) (pvals z1.items)) = n2 at *
    refine wp_region_held_drew (S := fun W => CopyS L.tb (8 + v * 21) w2.heap.size n2 W) (by kernel_rfl) k1.out (fun hHeld => ?_)
    refine take_at 0 49 (.pointer (some ⟨L.tb, 0, none⟩)) rfl rfl (by kernel_rfl) (by kernel_rfl) (by kernel_rfl) (fun _ _ _ h => h) (Or.inl ⟨by rfl, fun _ _ => by rfl⟩) hHeld ?_
    simp only [Act.put, List.setIfInBounds_toArray, List.set_cons_succ]
    refine take_at 1 50 (I v) rfl rfl (by kernel_rfl) (by kernel_rfl) (by kernel_rfl) (fun _ _ _ h => h) (Or.inl ⟨by rfl, fun _ _ => by rfl⟩) hHeld ?_
    simp only [Act.put, List.setIfInBounds_toArray, List.set_cons_succ]
    refine take_at 2 51 (.agg (pnCells n2).toArray) rfl rfl (by kernel_rfl) (by kernel_rfl) (by kernel_rfl) (fun _ _ _ h => h) (yieldsIf_load_mid (by rfl) _ _ rfl _ _ rfl _ ud (fun _ hS => hS.1) hu1 hu2 (Tryz.isz57 n2)) hHeld ?_
    simp only [Act.put, List.setIfInBounds_toArray, List.set_cons_succ]
    refine take_at 3 52 (.pointer (some ⟨L.tb, 0, none⟩)) rfl rfl (by kernel_rfl) (by kernel_rfl) (by kernel_rfl) (fun _ _ _ h => h) (Or.inl ⟨by rfl, fun _ _ => by rfl⟩) hHeld ?_
    simp only [Act.put, List.setIfInBounds_toArray, List.set_cons_succ]
    refine take_at 4 53 (.pointer (some ⟨L.tb, 8, none⟩)) rfl rfl (by kernel_rfl) (by kernel_rfl) (by kernel_rfl) (fun _ _ _ h => h) (Or.inl ⟨by rfl, fun W _ => run_nodes _ _ _ rfl L.tb rfl W⟩) hHeld ?_
    simp only [Act.put, List.setIfInBounds_toArray, List.set_cons_succ]
    refine take_at 5 54 (.pointer (some ⟨L.tb, 8 + v * 21, none⟩)) rfl rfl (by kernel_rfl) (by kernel_rfl) (by kernel_rfl) (fun _ _ _ h => h) (Or.inl ⟨by rfl, fun W _ => run_node _ _ _ _ rfl L.tb v rfl rfl (by omega) W⟩) hHeld ?_
    simp only [Act.put, List.setIfInBounds_toArray, List.set_cons_succ]
    refine wpAnyH_ready (rs := [6]) (by kernel_rfl) (by simp) ?_
    refine AllReadyH.cons rfl (fun K hK => ?_) AllReadyH.nil
    rw [if_pos (by rfl)]
    refine wp_store_mid _ _ _ rfl L.tb (8 + v * 21) (pnCells n2).toArray rfl rfl hHeld.2 (by rw [pn_size]; exact Tryz.size57) hp2.out ?_
    refine hK.out _ _ k2.out (fun hHeld => ?_)
    refine wpAnyH_done (by kernel_rfl) ?_ _
    simp only [Act.put]
    replace hw := hw.out
    clear hHeld hK k1 k2
    have ew5 : w4.drew.setCells L.tb (8 + v * 21) (pnCells n2).toArray.toList = w4.drew.setCells L.tb (8 + v * 21) (pnCells n2) := rfl
    rw [ew5]
    clear ew5
    generalize w4.drew.setCells L.tb (8 + v * 21) (pnCells n2) = w5 at *
    have HR5 : Hid _ := hw.rep
    have hl5 : 2 * v < (L.nodes.set v n2).length := by simpa using h0'
    go_wp2_with (with_reducible refine store_node rfl (.tmp 61) (.tmp 58) rfl HR5.out (2 * v) hl5 zeroPN ?zx2 ?zy2 ZZ.out (World.ownsRow_nil _ _ _ _) (fun _ _ _ _ _ e => by simp [zeroPN, Value.ownBlock] at e) ?_)
    case zy2 => rfl
    intro w6 hw6
    have HR6 : Hid _ := hw6.rep
    have hl6 : 2 * v + 1 < ((L.nodes.set v n2).set (2 * v) zeroPN).length := by simpa using h1'
    go_wp2_with (with_reducible refine store_node rfl (.tmp 69) (.tmp 66) rfl HR6.out (2 * v + 1) hl6 zeroPN ?zx3 ?zy3 ZZ.out (World.ownsRow_nil _ _ _ _) (fun _ _ _ _ _ e => by simp [zeroPN, Value.ownBlock] at e) ?_)
    case zy3 => rfl
    intro w7 hw7
    go_wp2_with fail
    go_end0
    refine ⟨rfl, ⟨⟨z, ?_⟩, ((hch.out.trans hw.chg).trans hw6.chg).trans hw7.chg⟩⟩
    have hfin := hw7.rep
    rw [← hn2] at hfin
    show PRep w7 B { L with nodes := ((L.nodes.set v (foldPN L v _)).set (2 * v) zeroPN).set (2 * v + 1) zeroPN }
    unfold foldPN
    rw [if_neg (by rw [hk.out]; decide), g0.out, g1.out, gv.out]
    exact hfin

theorem OnlyB.row {b : Nat} {v : Value} {w w' : World} (ho : OnlyB b v w w') {base : Nat} {e : TypeId} {size : Nat} {x : Value} {n : Nat} {xs : List Value} (h : w.ownsRow base e size x n xs) (h1 : x.ownBlock ≠ some b) (h2 : ∀ g, x.ownBlock = some g → v.ownBlock = some g → False) : w'.ownsRow base e size x n xs := by
  have hlt := fun g (e : x.ownBlock = some g) => (h.lt g e).2
  obtain ⟨a1, a2⟩ := h
  refine ⟨a1, ?_⟩
  rcases a2 with a2 | ⟨g, cap, cur, hv, hg, hh, r⟩
  · exact Or.inl a2
  · refine Or.inr ⟨g, cap, cur, hv, hg, ?_, r⟩
    have e1 : x.ownBlock = some g := by rw [hv]; rfl
    rw [ho.block g (hlt g e1) (fun e => h1 (by rw [e1, e])) (fun e => h2 g e1 e.symm)]
    exact hh

theorem NB.keep {w w' : World} {C b1 b2 : Nat} {n1 n2 : PN} (h1 : NB w C b1 n1) (h2 : NB w C b2 n2) (hne : b1 ≠ b2) (ho : OnlyB b1 n1.iv w w') (hap : ∀ g, n1.iv.ownBlock = some g → n2.iv.ownBlock = some g → False) : NB w' C b2 n2 := by
  have t1 : ∀ b n, NB w C b n → n1.iv.ownBlock ≠ some b := by
    intro b n hb e
    obtain ⟨cur, hc⟩ := ownsRow_block h1.row e
    rw [hb.blk] at hc
    simp at hc
  refine ⟨?_, ho.row h2.row ?_ (fun g a b => hap g b a), h2.hC⟩
  · rw [ho.block b2 (Array.getElem?_eq_some_iff.1 h2.blk).1 (Ne.symm hne) (fun e => t1 b2 n2 h2 e.symm)]
    exact h2.blk
  · intro e
    obtain ⟨cur, hc⟩ := ownsRow_block h2.row e
    rw [h1.blk] at hc
    simp at hc

theorem run_field3 (ev : Operand → Value) (op : Oper) (x : Operand) (ho : op.op = .fieldAddr 57 x 3) (b : Nat) (hx : ev x = .pointer (some ⟨b, 0, none⟩)) (W : World) : (execOp ev op).run Tryz.prog W = .ok (.value (.pointer (some ⟨b, 3, none⟩))) W := by
  unfold execOp
  simp only [ho, hx]
  go_simp
theorem run_load3 (ev : Operand → Value) (op : Oper) (x : Operand) (ho : op.op = .load 3 x) (b : Nat) (z : Int) (hx : ev x = .pointer (some ⟨b, 3, none⟩)) (W : World) (hc : W.cell? ⟨b, 3, none⟩ = some (I z)) : (execOp ev op).run Tryz.prog W = .ok (.value (I z)) W := by
  unfold execOp
  simp only [ho, hx]
  go_simp
theorem run_inner (ev : Operand → Value) (op : Oper) (x y : Operand) (ho : op.op = .build 57 #[(0, .const (.bool true)), (1, .const (.bool true)), (3, x), (4, y), (5, .const (I 1))]) (a b : Int) (h0 : ev (.const (.bool true)) = .bool true) (h1 : ev (.const (I 1)) = I 1) (hx : ev x = I a) (hy : ev y = I b) (W : World) : (execOp ev op).run Tryz.prog W = .ok (.value (.agg (pnCells { innerPN with inside := a, toggle := b }).toArray)) W := by
  unfold execOp
  simp only [ho]
  go_simp
  rfl
theorem run_twice (ev : Operand → Value) (op : Oper) (x : Operand) (ho : op.op = .binOp .mul 3 (.const (I 2)) x 3) (v : Nat) (h0 : ev (.const (I 2)) = I 2) (hx : ev x = I v) (hv : v < 32) (W : World) : (execOp ev op).run Tryz.prog W = .ok (.value (I ((2 * v : Nat) : Int))) W := by
  unfold execOp
  simp only [ho, hx, h0]
  go_simp
  exact wrap_small _ (by omega) (by omega)
theorem run_more (ev : Operand → Value) (op : Oper) (x : Operand) (ho : op.op = .binOp .add 3 x (.const (I 1)) 3) (v : Nat) (h0 : ev (.const (I 1)) = I 1) (hx : ev x = I ((2 * v : Nat) : Int)) (hv : v < 32) (W : World) : (execOp ev op).run Tryz.prog W = .ok (.value (I ((2 * v + 1 : Nat) : Int))) W := by
  unfold execOp
  simp only [ho, hx, h0]
  go_simp
  exact wrap_small _ (by omega) (by omega)

abbrev unfV (L : PLay) (v : Nat) (a b : PN) : PN := { innerPN with inside := (L.nodes.getD v zeroPN).inside, toggle := (a.puts + b.puts) % 2 }
abbrev unf0 (L : PLay) (v : Nat) (z : Value) : PN := if L.c.kind = 0 then { leafPN with puts := (L.nodes.getD v zeroPN).puts - (L.nodes.getD v zeroPN).puts / 2 } else leafPN.full z (evT (pvals (L.nodes.getD v zeroPN).items) (pvals (L.nodes.getD v zeroPN).items).length)
abbrev unf1 (L : PLay) (v : Nat) (z : Value) : PN := if L.c.kind = 0 then { leafPN with puts := (L.nodes.getD v zeroPN).puts / 2 } else leafPN.full z (odT (pvals (L.nodes.getD v zeroPN).items) (pvals (L.nodes.getD v zeroPN).items).length)
/-- What unfold leaves behind. -/
def UnfoldPost (B : Nat) (L : PLay) (v : Nat) (w w' : World) : Prop :=
  (∃ x y, PRep w' B { L with nodes := ((L.nodes.set v (unfV L v (unf0 L v x) (unf1 L v y))).set (2 * v) (unf0 L v x)).set (2 * v + 1) (unf1 L v y) }) ∧ ChgT B [61] w w'

set_option maxHeartbeats 4000000 in
set_option maxRecDepth 100000 in
theorem punfold_c {w : World} {B : Nat} {L : PLay} (h : PRep w B L) (hB : B ≤ w.heap.size) (v : Nat) (hv1 : 1 ≤ v) (hv : 2 * v + 1 < 32) (hv' : v < L.nodes.length) (h0' : 2 * v < L.nodes.length) (h1' : 2 * v + 1 < L.nodes.length)
    (hk : L.c.kind = 0 ∨ L.c.kind = 1) (hp0 : 0 ≤ (L.nodes[v]).puts ∧ (L.nodes[v]).puts ≤ 1000000) (hi0 : (L.nodes[v]).items.length ≤ 1000000) :
    Calls Tryz.prog 118 #[.pointer (some ⟨L.tb, 0, none⟩), I v] w fun e w' => e = .returned (.tuple #[]) ∧ UnfoldPost B L v w w' := by
  have k0 := h.ccell 0 (by omega)
  simp only [pConf, List.getElem?_cons_zero] at k0
  have hsz := h.size
  have p0 := pn_one L.nodes[v] (by obtain ⟨ao, cap, e, _⟩ := ownsRow_cells (h.items v hv'); exact ⟨_, _, _, e⟩)
  have it0 := h.items v hv'
  have gv : L.nodes.getD v zeroPN = L.nodes[v] := by simp [List.getD_eq_getElem?_getD, List.getElem?_eq_getElem hv']
  generalize hnv : L.nodes[v] = nv at *
  have R : ∀ W, Below w.heap.size w W → PRep W B L := fun W hb => h.below hb
  have KR : Hid (∀ W, Below w.heap.size w W → W.cell? ⟨L.tb, 0, none⟩ = some (I L.c.kind)) := fun W hb => (hb.cell (p := ⟨L.tb, 0, none⟩) hsz).trans k0
  replace R : Hid _ := R
  replace gv : Hid _ := gv
  have P0 : Hid _ := p0
  have PL : Hid ((pnCells leafPN).toArray.all (·.oneCell') = true) := pn_one _ ⟨_, _, _, rfl⟩
  clear p0 k0
  obtain ⟨ud, hu1, hu2⟩ := und_parts Tryz.row57
  go_enter Tryz.func118, Tryz.ntmps118
  go_wp2_with (first | (with_reducible refine load_node rfl (.tmp 14) rfl (R.out w (Below.refl _ _)) v hv' nv hnv ?hx0 ?_) | (with_reducible refine store_box rfl (.tmp 4) (.tmp 15) rfl nv _ ?sx0 ?sy0 ?st0 P0.out ?_))
  case hx0 => rfl
  case sx0 => rfl
  case sy0 => rfl
  case st0 => rfl
  intro w1 x1
  have hb1 := x1.bel
  go_wp2_with (with_reducible refine store_box rfl (.tmp 5) (.tmp 16) rfl leafPN _ ?sx1 ?sy1 ?st1 PL.out ?_)
  case sx1 => rfl
  case sy1 => rfl
  case st1 => rfl
  intro w2 x2
  have hb2 : Below w.heap.size w w2 := hb1.trans (x2.bel.mono hb1.size)
  go_wp2_with (with_reducible refine store_box rfl (.tmp 6) (.tmp 17) rfl leafPN _ ?sx2 ?sy2 ?st2 PL.out ?_)
  case sx2 => rfl
  case sy2 => rfl
  case st2 => rfl
  intro w3 x3
  have hb3 : Below w.heap.size w w3 := hb2.trans (x3.bel.mono hb2.size)
  have c0 := KR.out w3 hb3
  have s1 := x1.size
  have s2 := x2.size
  have s3 := x3.size
  have q0 : w3.heap[w.heap.size]? = some (.cells (pnCells nv).toArray 57 (0, 0)) := by rw [x3.bel.block _ (by omega), x2.bel.block _ (by omega)]; exact x1.blk
  have q1 : w3.heap[w1.heap.size]? = some (.cells (pnCells leafPN).toArray 57 (0, 0)) := by rw [x3.bel.block _ (by omega)]; exact x2.blk
  have q2 := x3.blk
  have l01 : w.heap.size < w1.heap.size := by omega
  have l12 : w1.heap.size < w2.heap.size := by omega
  have l23 : w2.heap.size < w3.heap.size := by omega
  have n12 : w1.heap.size ≠ w2.heap.size := by omega
  have n02 : w.heap.size ≠ w2.heap.size := by omega
  have n01 : w.heap.size ≠ w1.heap.size := by omega
  have f0 := (nb_facts q0).1 18
  have f1 := (nb_facts q1).1 18
  have z1 := (nb_facts q1).2 18
  have f2 := (nb_facts q2).1 18
  have z2 := (nb_facts q2).2 18
  simp only [pnCells, List.getElem?_toArray, List.getElem?_cons_succ, List.getElem?_cons_zero] at f0 f1 f2
  have hbw1 : w.heap.size ≤ w1.heap.size := by omega
  have hbw2 : w.heap.size ≤ w2.heap.size := by omega
  have T1 : Hid (∀ (W : World) (n : PN), PRep W B L → W.heap[w.heap.size]? = some (.cells (pnCells nv).toArray 57 (0, 0)) → n.iv = .slice none 0 0 → n.items = [] →
      (W.drew.cell? ⟨w.heap.size, 3, none⟩ = some (I nv.inside) ∧ W.drew.there L.tb (8 + v * 21) 21) ∧ ((W.drew.setCells L.tb (8 + v * 21) (pnCells n)).cell? ⟨w.heap.size, 3, none⟩ = some (I nv.inside) ∧ (W.drew.setCells L.tb (8 + v * 21) (pnCells n)).there L.tb (8 + v * 21) 21) ∧ Wrote W.drew (W.drew.setCells L.tb (8 + v * 21) (pnCells n)) B L v n) := by
    intro W n hR hq hiv hit
    have hRd : PRep W.drew B L := hR.below (Below.refl _ _).drew
    have hwr := hRd.wrote v hv' n (by rw [hiv, hit]; exact World.ownsRow_nil _ _ _ _) (fun u hu hne g e1 e2 => by rw [hiv] at e2; simp [Value.ownBlock] at e2)
    have hq2 : (W.drew.setCells L.tb (8 + v * 21) (pnCells n)).heap[w.heap.size]? = some (.cells (pnCells nv).toArray 57 (0, 0)) := by rw [hwr.heap _ (by omega)]; exact hq
    refine ⟨⟨?_, hRd.there v hv'⟩, ⟨?_, hwr.rep.there v (by simpa using hv')⟩, hwr⟩
    · rw [(nb_facts (show W.drew.heap[w.heap.size]? = _ from hq)).1 3]; rfl
    · rw [(nb_facts hq2).1 3]; rfl
  have T2 : Hid (∀ (W : World) (L' : PLay) (u b : Nat) (n : PN), PRep W B L' → L'.tb = L.tb → (hu : u < L'.nodes.length) → b ≠ L.tb → W.heap[b]? = some (.cells (pnCells n).toArray 57 (0, 0)) → W.ownsRow w.heap.size 148 2 n.iv n.items.length (n.items.flatMap fun y => [I y.1, I y.2]) → (∀ k, (hk : k < L'.nodes.length) → k ≠ u → ∀ g, (L'.nodes[k]).iv.ownBlock = some g → n.iv.ownBlock = some g → False) →
      CopyS L.tb (8 + u * 21) b n W.drew ∧ CopyS L.tb (8 + u * 21) b n (W.drew.setCells L.tb (8 + u * 21) (pnCells n)) ∧ Wrote W.drew (W.drew.setCells L.tb (8 + u * 21) (pnCells n)) B L' u n) := by
    intro W L' u b n hR htb hu hbt hq hrow hap
    have hRd : PRep W.drew B L' := hR.below (Below.refl _ _).drew
    have hrd : W.drew.ownsRow w.heap.size 148 2 n.iv n.items.length (n.items.flatMap fun y => [I y.1, I y.2]) := ownsRow_below hrow (Below.refl _ _).drew (Nat.le_refl _)
    have hwr := hRd.wrote u hu n (ownsRow_mono hrd hB) hap
    have c1 := copyS hRd u hu b n hq
    have c2 := copyS hwr.rep u (by simpa using hu) b n (by rw [hwr.heap _ (by rw [htb]; exact hbt)]; exact hq)
    rw [htb] at c1 hwr c2
    exact ⟨c1, c2, hwr⟩
  replace q0 : Hid _ := q0
  replace q1 : Hid _ := q1
  replace q2 : Hid _ := q2
  replace hb3 : Hid _ := hb3
  have nt0 : w.heap.size ≠ L.tb := by omega
  have nt1 : w1.heap.size ≠ L.tb := by omega
  have nt2 : w2.heap.size ≠ L.tb := by omega
  have IR : Hid (∀ u, (hu : u < L.nodes.length) → ∀ g, (L.nodes[u]).iv.ownBlock = some g → g < w.heap.size) := fun u hu g e => ((h.items u hu).lt g e).2
  clear s1 s2 s3 x1 x2 x3 hb1 hb2
  rcases hk with hk | hk
  · rw [hk] at c0
    replace hk : Hid _ := hk
    have hd : Int.tdiv nv.puts 2 = nv.puts / 2 := Int.tdiv_eq_ediv_of_nonneg hp0.1
    go_wp2_with fail
    have hq0 : ((w3.setCell ⟨w2.heap.size, 18, none⟩ (I (nv.puts / 2))).setCell ⟨w1.heap.size, 18, none⟩ (I (nv.puts - nv.puts / 2))).heap[w.heap.size]? = some (.cells (pnCells nv).toArray 57 (0, 0)) := by
      rw [Below.heap_setCell _ _ _ _ n01, Below.heap_setCell _ _ _ _ n02]
      exact q0.out
    have N2 : NB ((w3.setCell ⟨w2.heap.size, 18, none⟩ (I (nv.puts / 2))).setCell ⟨w1.heap.size, 18, none⟩ (I (nv.puts - nv.puts / 2))) w.heap.size w2.heap.size { leafPN with puts := nv.puts / 2 } := by
      refine ⟨?_, World.ownsRow_nil _ _ _ _, hbw2⟩
      rw [Below.heap_setCell _ _ _ _ (Ne.symm n12)]
      exact nb_set q2.out 18 _
    have N1 : NB ((w3.setCell ⟨w2.heap.size, 18, none⟩ (I (nv.puts / 2))).setCell ⟨w1.heap.size, 18, none⟩ (I (nv.puts - nv.puts / 2))) w.heap.size w1.heap.size { leafPN with puts := nv.puts - nv.puts / 2 } := by
      refine ⟨?_, World.ownsRow_nil _ _ _ _, hbw1⟩
      have : (w3.setCell ⟨w2.heap.size, 18, none⟩ (I (nv.puts / 2))).heap[w1.heap.size]? = some (.cells (pnCells leafPN).toArray 57 (0, 0)) := by rw [Below.heap_setCell _ _ _ _ n12]; exact q1.out
      exact nb_set this 18 _
    have hb4 : Below w.heap.size w ((w3.setCell ⟨w2.heap.size, 18, none⟩ (I (nv.puts / 2))).setCell ⟨w1.heap.size, 18, none⟩ (I (nv.puts - nv.puts / 2))) := (hb3.out.setCell hbw2 _).setCell hbw1 _
    have hpM1 : Hid ((pnCells { leafPN with puts := nv.puts - nv.puts / 2 }).toArray.all (·.oneCell') = true) := pn_one _ ⟨_, _, _, rfl⟩
    have hpM2 : Hid ((pnCells { leafPN with puts := nv.puts / 2 }).toArray.all (·.oneCell') = true) := pn_one _ ⟨_, _, _, rfl⟩
    have ap12 : Hid (∀ g, ({ leafPN with puts := nv.puts - nv.puts / 2 } : PN).iv.ownBlock = some g → ({ leafPN with puts := nv.puts / 2 } : PN).iv.ownBlock = some g → False) := fun g e _ => by simp [leafPN, Value.ownBlock] at e
    have TC : True := trivial
    have htg : Hid (nv.puts % 2 = (nv.puts - nv.puts / 2 + nv.puts / 2) % 2) := by show _ = _; congr 1; omega
    replace N1 : Hid _ := N1
    replace N2 : Hid _ := N2
    replace hb4 : Hid _ := hb4
    replace hq0 : Hid _ := hq0
    clear q0 q1 q2 hb3 f0 f1 f2 z1 z2 c0 hd
    generalize nv.puts % 2 = tg at *
    generalize hm1 : ({ leafPN with puts := nv.puts - nv.puts / 2 } : PN) = m1 at *
    generalize hm2 : ({ leafPN with puts := nv.puts / 2 } : PN) = m2 at *
    generalize (w3.setCell ⟨w2.heap.size, 18, none⟩ (Value.int IntKind.i64 (nv.puts / 2))).setCell ⟨w1.heap.size, 18, none⟩ (Value.int IntKind.i64 (nv.puts - nv.puts / 2)) = w4 at *
    clear TC
    obtain ⟨ka, kb, hw5⟩ := T1.out w4 { innerPN with inside := nv.inside, toggle := tg } (R.out w4 hb4.out) hq0.out rfl rfl
    replace ka : Hid _ := ka
    replace kb : Hid _ := kb
    have htree : w4.drew.heap[L.tb]? = _ := (R.out w4 hb4.out).tree
    have hp5 : Hid ((pnCells { innerPN with inside := nv.inside, toggle := tg }).toArray.all (·.oneCell') = true) := pn_one _ ⟨_, _, _, rfl⟩
    replace hw5 : Hid _ := hw5
    replace htree : Hid _ := htree
    refine wp_region_held_drew (S := fun W => W.cell? ⟨w.heap.size, 3, none⟩ = some (I nv.inside) ∧ W.there L.tb (8 + v * 21) 21) (by kernel_rfl) ka.out (fun hHeld => ?_)
    refine take_at 0 60 (.pointer (some ⟨L.tb, 0, none⟩)) rfl rfl (by kernel_rfl) (by kernel_rfl) (by kernel_rfl) (fun _ _ _ h => h) (Or.inl ⟨by rfl, fun _ _ => by rfl⟩) hHeld ?_
    simp only [Act.put, List.setIfInBounds_toArray, List.set_cons_succ]
    refine take_at 1 61 (I v) rfl rfl (by kernel_rfl) (by kernel_rfl) (by kernel_rfl) (fun _ _ _ h => h) (Or.inl ⟨by rfl, fun _ _ => by rfl⟩) hHeld ?_
    simp only [Act.put, List.setIfInBounds_toArray, List.set_cons_succ]
    refine take_at 2 62 (.pointer (some ⟨w.heap.size, 3, none⟩)) rfl rfl (by kernel_rfl) (by kernel_rfl) (by kernel_rfl) (fun _ _ _ h => h) (Or.inl ⟨by rfl, fun W _ => run_field3 _ _ _ rfl w.heap.size rfl W⟩) hHeld ?_
    simp only [Act.put, List.setIfInBounds_toArray, List.set_cons_succ]
    refine take_at 3 63 (I nv.inside) rfl rfl (by kernel_rfl) (by kernel_rfl) (by kernel_rfl) (fun _ _ _ h => h) (Or.inl ⟨by rfl, fun W hS => run_load3 _ _ _ rfl w.heap.size nv.inside rfl W hS.1⟩) hHeld ?_
    simp only [Act.put, List.setIfInBounds_toArray, List.set_cons_succ]
    refine take_at 4 64 (I tg) rfl rfl (by kernel_rfl) (by kernel_rfl) (by kernel_rfl) (fun _ _ _ h => h) (Or.inl ⟨by rfl, fun _ _ => by rfl⟩) hHeld ?_
    simp only [Act.put, List.setIfInBounds_toArray, List.set_cons_succ]
    refine take_at 5 65 (.agg (pnCells { innerPN with inside := nv.inside, toggle := tg }).toArray) rfl rfl (by kernel_rfl) (by kernel_rfl) (by kernel_rfl) (fun _ _ _ h => h) (Or.inl ⟨by rfl, fun W _ => run_inner _ _ _ _ rfl nv.inside tg rfl rfl rfl rfl W⟩) hHeld ?_
    simp only [Act.put, List.setIfInBounds_toArray, List.set_cons_succ]
    refine take_at 6 66 (.pointer (some ⟨L.tb, 0, none⟩)) rfl rfl (by kernel_rfl) (by kernel_rfl) (by kernel_rfl) (fun _ _ _ h => h) (Or.inl ⟨by rfl, fun _ _ => by rfl⟩) hHeld ?_
    simp only [Act.put, List.setIfInBounds_toArray, List.set_cons_succ]
    refine take_at 7 67 (.pointer (some ⟨L.tb, 8, none⟩)) rfl rfl (by kernel_rfl) (by kernel_rfl) (by kernel_rfl) (fun _ _ _ h => h) (Or.inl ⟨by rfl, fun W _ => run_nodes _ _ _ rfl L.tb rfl W⟩) hHeld ?_
    simp only [Act.put, List.setIfInBounds_toArray, List.set_cons_succ]
    refine take_at 8 68 (.pointer (some ⟨L.tb, 8 + v * 21, none⟩)) rfl rfl (by kernel_rfl) (by kernel_rfl) (by kernel_rfl) (fun _ _ _ h => h) (Or.inl ⟨by rfl, fun W _ => run_node _ _ _ _ rfl L.tb v rfl rfl (by omega) W⟩) hHeld ?_
    simp only [Act.put, List.setIfInBounds_toArray, List.set_cons_succ]
    refine wpAnyH_ready (rs := [9]) (by kernel_rfl) (by simp) ?_
    refine AllReadyH.cons rfl (fun K hK => ?_) AllReadyH.nil
    rw [if_pos (by rfl)]
    refine wp_store_mid _ _ _ rfl L.tb (8 + v * 21) (pnCells { innerPN with inside := nv.inside, toggle := tg }).toArray rfl rfl hHeld.2 (by rw [pn_size]; exact Tryz.size57) hp5.out ?_
    refine hK.out _ _ kb.out (fun hHeld => ?_)
    refine wpAnyH_done (by kernel_rfl) ?_ _
    simp only [Act.put]
    clear hHeld hK
    clear ka kb
    have hw5' := hw5.out
    have ew : w4.drew.setCells L.tb (8 + v * 21) (pnCells { innerPN with inside := nv.inside, toggle := tg }).toArray.toList = w4.drew.setCells L.tb (8 + v * 21) (pnCells { innerPN with inside := nv.inside, toggle := tg }) := rfl
    rw [ew]
    clear ew hw5
    generalize w4.drew.setCells L.tb (8 + v * 21) (pnCells { innerPN with inside := nv.inside, toggle := tg }) = w5 at *
    have N15 : w5.heap[w1.heap.size]? = some (.cells (pnCells m1).toArray 57 (0, 0)) := by rw [hw5'.heap _ nt1]; exact N1.out.blk
    have N25 : w5.heap[w2.heap.size]? = some (.cells (pnCells m2).toArray 57 (0, 0)) := by rw [hw5'.heap _ nt2]; exact N2.out.blk
    have Q15 := ownsRow_block_kept (ownsRow_below N1.out.row (Below.refl _ _).drew (Nat.le_refl _)) htree.out (by decide) hw5'.heap
    have Q25 := ownsRow_block_kept (ownsRow_below N2.out.row (Below.refl _ _).drew (Nat.le_refl _)) htree.out (by decide) hw5'.heap
    have hl5 : 2 * v < (L.nodes.set v { innerPN with inside := nv.inside, toggle := tg }).length := by simpa using h0'
    obtain ⟨kc, kd, hw6⟩ := T2.out w5 { L with nodes := L.nodes.set v { innerPN with inside := nv.inside, toggle := tg } } (2 * v) w1.heap.size m1 hw5'.rep rfl hl5 nt1 N15 Q15 (fun k hk hne g e1 e2 => by
      have hk' : k < L.nodes.length := by simpa using hk
      by_cases e : k = v
      · subst e
        simp only [List.getElem_set_self] at e1
        simp [innerPN, Value.ownBlock] at e1
      · simp only [List.getElem_set_ne (Ne.symm e)] at e1
        have a1 := IR.out k hk' g e1
        have a2 := (N1.out.row.lt g e2).1
        omega)
    have htree6 : w5.drew.heap[L.tb]? = _ := hw5'.rep.tree
    replace htree6 : Hid _ := htree6
    replace kc : Hid _ := kc
    replace kd : Hid _ := kd
    replace hw6 : Hid _ := hw6
    replace hw5' : Hid _ := hw5'
    replace N25 : Hid _ := N25
    replace Q25 : Hid _ := Q25
    clear N15 Q15 hp5 htree hl5
    go_wp2_with fail
    refine wp_region_held_drew (S := fun W => CopyS L.tb (8 + (2 * v) * 21) w1.heap.size m1 W) (by kernel_rfl) kc.out (fun hHeld => ?_)
    refine take_at 0 69 (.pointer (some ⟨L.tb, 0, none⟩)) rfl rfl (by kernel_rfl) (by kernel_rfl) (by kernel_rfl) (fun _ _ _ h => h) (Or.inl ⟨by rfl, fun _ _ => by rfl⟩) hHeld ?_
    simp only [Act.put, List.setIfInBounds_toArray, List.set_cons_succ]
    refine take_at 1 70 (I v) rfl rfl (by kernel_rfl) (by kernel_rfl) (by kernel_rfl) (fun _ _ _ h => h) (Or.inl ⟨by rfl, fun _ _ => by rfl⟩) hHeld ?_
    simp only [Act.put, List.setIfInBounds_toArray, List.set_cons_succ]
    refine take_at 2 71 (I ((2 * v : Nat) : Int)) rfl rfl (by kernel_rfl) (by kernel_rfl) (by kernel_rfl) (fun _ _ _ h => h) (Or.inl ⟨by rfl, fun W _ => run_twice _ _ _ rfl v rfl rfl (by omega) W⟩) hHeld ?_
    simp only [Act.put, List.setIfInBounds_toArray, List.set_cons_succ]
    refine take_at 3 72 (.agg (pnCells m1).toArray) rfl rfl (by kernel_rfl) (by kernel_rfl) (by kernel_rfl) (fun _ _ _ h => h) (yieldsIf_load_mid (by rfl) _ _ rfl _ _ rfl _ ud (fun _ hS => hS.1) hu1 hu2 (Tryz.isz57 m1)) hHeld ?_
    simp only [Act.put, List.setIfInBounds_toArray, List.set_cons_succ]
    refine take_at 4 73 (.pointer (some ⟨L.tb, 0, none⟩)) rfl rfl (by kernel_rfl) (by kernel_rfl) (by kernel_rfl) (fun _ _ _ h => h) (Or.inl ⟨by rfl, fun _ _ => by rfl⟩) hHeld ?_
    simp only [Act.put, List.setIfInBounds_toArray, List.set_cons_succ]
    refine take_at 5 74 (.pointer (some ⟨L.tb, 8, none⟩)) rfl rfl (by kernel_rfl) (by kernel_rfl) (by kernel_rfl) (fun _ _ _ h => h) (Or.inl ⟨by rfl, fun W _ => run_nodes _ _ _ rfl L.tb rfl W⟩) hHeld ?_
    simp only [Act.put, List.setIfInBounds_toArray, List.set_cons_succ]
    refine take_at 6 75 (.pointer (some ⟨L.tb, 8 + (2 * v) * 21, none⟩)) rfl rfl (by kernel_rfl) (by kernel_rfl) (by kernel_rfl) (fun _ _ _ h => h) (Or.inl ⟨by rfl, fun W _ => run_node _ _ _ _ rfl L.tb (2 * v) rfl rfl (by omega) W⟩) hHeld ?_
    simp only [Act.put, List.setIfInBounds_toArray, List.set_cons_succ]
    refine wpAnyH_ready (rs := [7]) (by kernel_rfl) (by simp) ?_
    refine AllReadyH.cons rfl (fun K hK => ?_) AllReadyH.nil
    rw [if_pos (by rfl)]
    refine wp_store_mid _ _ _ rfl L.tb (8 + (2 * v) * 21) (pnCells m1).toArray rfl rfl hHeld.2 (by rw [pn_size]; exact Tryz.size57) hpM1.out ?_
    refine hK.out _ _ kd.out (fun hHeld => ?_)
    refine wpAnyH_done (by kernel_rfl) ?_ _
    simp only [Act.put]
    clear hHeld hK
    clear kc kd
    have hw6' := hw6.out
    have ew : w5.drew.setCells L.tb (8 + (2 * v) * 21) (pnCells m1).toArray.toList = w5.drew.setCells L.tb (8 + (2 * v) * 21) (pnCells m1) := rfl
    rw [ew]
    clear ew hw6
    generalize w5.drew.setCells L.tb (8 + (2 * v) * 21) (pnCells m1) = w6 at *
    have N26 : w6.heap[w2.heap.size]? = some (.cells (pnCells m2).toArray 57 (0, 0)) := by rw [hw6'.heap _ nt2]; exact N25.out
    have Q26 := ownsRow_block_kept (ownsRow_below Q25.out (Below.refl _ _).drew (Nat.le_refl _)) htree6.out (by decide) hw6'.heap
    have hl6 : 2 * v + 1 < ((L.nodes.set v { innerPN with inside := nv.inside, toggle := tg }).set (2 * v) m1).length := by simpa using h1'
    obtain ⟨ke, kf, hw7⟩ := T2.out w6 { L with nodes := (L.nodes.set v { innerPN with inside := nv.inside, toggle := tg }).set (2 * v) m1 } (2 * v + 1) w2.heap.size m2 hw6'.rep rfl hl6 nt2 N26 Q26 (fun k hk hne g e1 e2 => by
      have hk' : k < L.nodes.length := by simpa using hk
      by_cases e0 : k = 2 * v
      · subst e0
        simp only [List.getElem_set_self] at e1
        exact ap12.out g e1 e2
      · simp only [List.getElem_set_ne (Ne.symm e0)] at e1
        by_cases e : k = v
        · subst e
          simp only [List.getElem_set_self] at e1
          simp [innerPN, Value.ownBlock] at e1
        · simp only [List.getElem_set_ne (Ne.symm e)] at e1
          have a1 := IR.out k hk' g e1
          have a2 := (N2.out.row.lt g e2).1
          omega)
    replace ke : Hid _ := ke
    replace kf : Hid _ := kf
    replace hw7 : Hid _ := hw7
    replace hw6' : Hid _ := hw6'
    clear N25 Q25 N26 Q26 htree6 hl6
    go_wp2_with fail
    refine wp_region_held_drew (S := fun W => CopyS L.tb (8 + (2 * v + 1) * 21) w2.heap.size m2 W) (by kernel_rfl) ke.out (fun hHeld => ?_)
    refine take_at 0 76 (.pointer (some ⟨L.tb, 0, none⟩)) rfl rfl (by kernel_rfl) (by kernel_rfl) (by kernel_rfl) (fun _ _ _ h => h) (Or.inl ⟨by rfl, fun _ _ => by rfl⟩) hHeld ?_
    simp only [Act.put, List.setIfInBounds_toArray, List.set_cons_succ]
    refine take_at 1 77 (I v) rfl rfl (by kernel_rfl) (by kernel_rfl) (by kernel_rfl) (fun _ _ _ h => h) (Or.inl ⟨by rfl, fun _ _ => by rfl⟩) hHeld ?_
    simp only [Act.put, List.setIfInBounds_toArray, List.set_cons_succ]
    refine take_at 2 78 (I ((2 * v : Nat) : Int)) rfl rfl (by kernel_rfl) (by kernel_rfl) (by kernel_rfl) (fun _ _ _ h => h) (Or.inl ⟨by rfl, fun W _ => run_twice _ _ _ rfl v rfl rfl (by omega) W⟩) hHeld ?_
    simp only [Act.put, List.setIfInBounds_toArray, List.set_cons_succ]
    refine take_at 3 79 (I ((2 * v + 1 : Nat) : Int)) rfl rfl (by kernel_rfl) (by kernel_rfl) (by kernel_rfl) (fun _ _ _ h => h) (Or.inl ⟨by rfl, fun W _ => run_more _ _ _ rfl v rfl rfl (by omega) W⟩) hHeld ?_
    simp only [Act.put, List.setIfInBounds_toArray, List.set_cons_succ]
    refine take_at 4 80 (.agg (pnCells m2).toArray) rfl rfl (by kernel_rfl) (by kernel_rfl) (by kernel_rfl) (fun _ _ _ h => h) (yieldsIf_load_mid (by rfl) _ _ rfl _ _ rfl _ ud (fun _ hS => hS.1) hu1 hu2 (Tryz.isz57 m2)) hHeld ?_
    simp only [Act.put, List.setIfInBounds_toArray, List.set_cons_succ]
    refine take_at 5 81 (.pointer (some ⟨L.tb, 0, none⟩)) rfl rfl (by kernel_rfl) (by kernel_rfl) (by kernel_rfl) (fun _ _ _ h => h) (Or.inl ⟨by rfl, fun _ _ => by rfl⟩) hHeld ?_
    simp only [Act.put, List.setIfInBounds_toArray, List.set_cons_succ]
    refine take_at 6 82 (.pointer (some ⟨L.tb, 8, none⟩)) rfl rfl (by kernel_rfl) (by kernel_rfl) (by kernel_rfl) (fun _ _ _ h => h) (Or.inl ⟨by rfl, fun W _ => run_nodes _ _ _ rfl L.tb rfl W⟩) hHeld ?_
    simp only [Act.put, List.setIfInBounds_toArray, List.set_cons_succ]
    refine take_at 7 83 (.pointer (some ⟨L.tb, 8 + (2 * v + 1) * 21, none⟩)) rfl rfl (by kernel_rfl) (by kernel_rfl) (by kernel_rfl) (fun _ _ _ h => h) (Or.inl ⟨by rfl, fun W _ => run_node _ _ _ _ rfl L.tb (2 * v + 1) rfl rfl (by omega) W⟩) hHeld ?_
    simp only [Act.put, List.setIfInBounds_toArray, List.set_cons_succ]
    refine wpAnyH_ready (rs := [8]) (by kernel_rfl) (by simp) ?_
    refine AllReadyH.cons rfl (fun K hK => ?_) AllReadyH.nil
    rw [if_pos (by rfl)]
    refine wp_store_mid _ _ _ rfl L.tb (8 + (2 * v + 1) * 21) (pnCells m2).toArray rfl rfl hHeld.2 (by rw [pn_size]; exact Tryz.size57) hpM2.out ?_
    refine hK.out _ _ kf.out (fun hHeld => ?_)
    refine wpAnyH_done (by kernel_rfl) ?_ _
    simp only [Act.put]
    clear hHeld hK
    clear ke kf
    have hw7' := hw7.out
    have ew : w6.drew.setCells L.tb (8 + (2 * v + 1) * 21) (pnCells m2).toArray.toList = w6.drew.setCells L.tb (8 + (2 * v + 1) * 21) (pnCells m2) := rfl
    rw [ew]
    clear ew hw7
    generalize w6.drew.setCells L.tb (8 + (2 * v + 1) * 21) (pnCells m2) = w7 at *
    replace hw7' : Hid _ := hw7'
    go_wp2_with fail
    go_end0
    have dr : ∀ W : World, ChgT B [61] W W.drew := fun W => ChgT.of_below (Below.refl _ _).drew
    have hfin := hw7'.out.rep
    refine ⟨rfl, ⟨.slice none 0 0, .slice none 0 0, ?_⟩, ((((((ChgT.of_below hb4.out).trans (dr _)).trans hw5'.out.chg).trans (dr _)).trans hw6'.out.chg).trans (dr _)).trans hw7'.out.chg⟩
    have e0 : unf0 L v (.slice none 0 0) = m1 := by unfold unf0; rw [if_pos hk.out, gv.out]; exact hm1
    have e1 : unf1 L v (.slice none 0 0) = m2 := by unfold unf1; rw [if_pos hk.out, gv.out]; exact hm2
    have e2 : unfV L v m1 m2 = { innerPN with inside := nv.inside, toggle := tg } := by
      unfold unfV
      rw [gv.out, htg.out, ← hm1, ← hm2]
    rw [e0, e1, e2]
    exact hfin
  · rw [hk] at c0
    replace hk : Hid _ := hk
    have v0 := (nb_facts q0.out).1 20
    simp only [pnCells, List.getElem?_toArray, List.getElem?_cons_succ, List.getElem?_cons_zero] at v0
    have HV0 := values_c w3 B w.heap.size 0 nv.iv nv.items (by simpa using v0) (ownsRow_below it0 hb3.out (Nat.le_refl _)) (by omega)
    replace HV0 : Hid _ := HV0
    have lX : (pvals nv.items).length ≤ 1000000 := Nat.le_trans (by simp only [pvals, List.length_map]; exact List.length_filter_le _ _) hi0
    have HL : Hid (∀ (W : World) (b : Nat) (x : Value) (l : List Int) (a : Int), NB W w.heap.size b (leafPN.full x l) → w.heap.size ≤ W.heap.size → l.length ≤ 10000000 → Calls Tryz.prog 125 #[.pointer (some ⟨b, 0, none⟩), I a] W fun e w' => e = .returned (.tuple #[]) ∧ ∃ x', NB w' w.heap.size b (leafPN.full x' (l ++ [a])) ∧ OnlyB b x W w' ∧ (∀ g, x'.ownBlock = some g → x.ownBlock = some g ∨ W.heap.size ≤ g)) := by
      intro W b x l a hW hCW hl
      refine (lay_c hW hCW a (by show (0 : Int) ≤ (l.length : Nat); omega) (by show ((l.length : Nat) : Int) ≤ _; omega) (by show (l.map _).length ≤ _; simp; omega)).mono ?_
      rintro e w' ⟨rfl, z', a1, a2, a3⟩
      rw [full_laid] at a1
      exact ⟨rfl, z', a1, a2, a3⟩
    clear v0 it0 f0 f1 f2 z1 z2
    go_wp2_with fail
    refine Calls.mono HV0.out ?_
    rintro e wa ⟨xv, rfl, hxa, hba⟩
    have hbwa : Below w.heap.size w wa := hb3.out.trans (hba.mono hb3.out.size)
    have HA : Hid (NB wa w.heap.size w1.heap.size (leafPN.full (.slice none 0 0) []) ∧ NB wa w.heap.size w2.heap.size (leafPN.full (.slice none 0 0) []) ∧ wa.heap[w.heap.size]? = some (.cells (pnCells nv).toArray 57 (0, 0))) := by
      refine ⟨⟨?_, World.ownsRow_nil _ _ _ _, hbw1⟩, ⟨?_, World.ownsRow_nil _ _ _ _, hbw2⟩, ?_⟩
      · rw [hba.block _ (by omega)]; exact q1.out
      · rw [hba.block _ l23]; exact q2.out
      · rw [hba.block _ (by omega)]; exact q0.out
    have SX : Hid (∀ W, ChgT w.heap.size [57, 148] wa W → Shows W xv (pvals nv.items) W.heap.size) := fun W hc => Shows.of_row (hc.row hxa (by decide))
    have sza : w.heap.size ≤ wa.heap.size := hbwa.size
    obtain ⟨xo, xcap, ex, x1, x2, _⟩ := (SX.out wa (ChgT.refl _ _ _)).ex
    subst ex
    unfold maxLen at x2
    have e0F : Hid (∀ x y, unf0 L v x = leafPN.full x (evT (pvals nv.items) (pvals nv.items).length) ∧ unf1 L v y = leafPN.full y (odT (pvals nv.items) (pvals nv.items).length)) := by
      intro x y
      unfold unf0 unf1
      rw [if_neg (by rw [hk.out]; decide), if_neg (by rw [hk.out]; decide), gv.out]
      exact ⟨rfl, rfl⟩
    generalize pvals nv.items = X at *
    replace hbwa : Hid _ := hbwa
    clear HV0 hba hxa hb3 q0 q1 q2 c0
    go_wp2_with fail
    go_loopw [8] (fun i wr => ∃ (k : Nat) (x y : Value), k ≤ X.length ∧ i = .int .i64 k ∧ NB wr w.heap.size w1.heap.size (leafPN.full x (evT X k)) ∧ NB wr w.heap.size w2.heap.size (leafPN.full y (odT X k)) ∧ (∀ g, x.ownBlock = some g → y.ownBlock = some g → False) ∧ wr.heap[w.heap.size]? = some (.cells (pnCells nv).toArray 57 (0, 0)) ∧ ChgT w.heap.size [57, 148] wa wr) (fun i _ => X.length - (intOf i).toNat)
    case atStart => exact ⟨0, .slice none 0 0, .slice none 0 0, by omega, rfl, HA.out.1, HA.out.2.1, fun g e => by simp [Value.ownBlock] at e, HA.out.2.2, ChgT.refl _ _ _⟩
    case round =>
      obtain ⟨k, x, y, hkX, rfl, n1, n2, hap, hq, hch⟩ := hrel
      have szr : w.heap.size ≤ wr.heap.size := Nat.le_trans sza hch.size
      have hle := evT_le X k
      by_cases hlt : k < X.length
      · obtain ⟨_, _, e1, _, _, hx2⟩ := SX.out wr hch
        obtain ⟨g, o, eo, hg, cc⟩ := hx2 k hlt
        simp only [Value.slice.injEq] at e1
        obtain ⟨rfl, _, rfl⟩ := e1
        subst eo
        have tq : ∀ (b : Nat) (z : Value) (l : List Int), NB wr w.heap.size b (leafPN.full z l) → b ≠ w.heap.size → ∀ w', OnlyB b z wr w' → w'.heap[w.heap.size]? = some (.cells (pnCells nv).toArray 57 (0, 0)) := by
          intro b z l hn hb w' ho
          rw [ho.block w.heap.size (Array.getElem?_eq_some_iff.1 hq).1 (Ne.symm hb) (fun e => by
            obtain ⟨cur, hc⟩ := ownsRow_block hn.row (g := w.heap.size) e.symm
            rw [hq] at hc
            simp at hc)]
          exact hq
        by_cases hev : k % 2 = 0
        · obtain ⟨ee, eo⟩ := evT_even X k hlt hev
          have b1 : ((k : Int) % 2 == 0) = true := by simp; omega
          have hl := HL.out wr w1.heap.size x (evT X k) X[k] n1 szr (by omega)
          have HE : Hid _ := ee
          have HO : Hid _ := eo
          have HN : Hid (∀ w' x', NB w' w.heap.size w1.heap.size (leafPN.full x' (evT X k ++ [X[k]])) → OnlyB w1.heap.size x wr w' → (∀ g, x'.ownBlock = some g → x.ownBlock = some g ∨ wr.heap.size ≤ g) → NB w' w.heap.size w2.heap.size (leafPN.full y (odT X k)) ∧ (∀ g, x'.ownBlock = some g → y.ownBlock = some g → False) ∧ w'.heap[w.heap.size]? = some (.cells (pnCells nv).toArray 57 (0, 0)) ∧ ChgT w.heap.size [57, 148] wa w') := by
            intro w' x' a1 a2 a3
            refine ⟨n1.keep n2 n12 a2 hap, fun g g1 g2 => ?_, tq _ _ _ n1 (Ne.symm n01) w' a2, hch.trans (a2.chg n1)⟩
            rcases a3 g g1 with e | e
            · exact hap g e g2
            · have := (n2.row.lt g g2).2; omega
          generalize X[k] = a at *
          replace hl : Hid _ := hl
          clear ee eo n1 n2 hap hq hch tq hx2
          go_wp2_with fail
          refine Calls.mono hl.out ?_
          rintro e w' ⟨rfl, x', a1, a2, a3⟩
          obtain ⟨m2, m3, m4, m5⟩ := HN.out w' x' a1 a2 a3
          rw [← HE.out] at a1
          rw [← HO.out] at m2
          replace a1 : Hid _ := a1
          replace m2 : Hid _ := m2
          replace m3 : Hid _ := m3
          replace m4 : Hid _ := m4
          replace m5 : Hid _ := m5
          clear hl HN a2 a3 cc HE HO
          go_wp2
          go_roundw
          case rel => exact ⟨k + 1, x', y, by omega, by go_num, a1.out, m2.out, m3.out, m4.out, m5.out⟩
          case measure => simp [intOf]; omega
        · obtain ⟨eo, ee⟩ := evT_odd X k hlt hev
          have b1 : ((k : Int) % 2 == 0) = false := by simp; omega
          have hl := HL.out wr w2.heap.size y (odT X k) X[k] n2 szr (by omega)
          have HE : Hid _ := ee
          have HO : Hid _ := eo
          have HN : Hid (∀ w' y', NB w' w.heap.size w2.heap.size (leafPN.full y' (odT X k ++ [X[k]])) → OnlyB w2.heap.size y wr w' → (∀ g, y'.ownBlock = some g → y.ownBlock = some g ∨ wr.heap.size ≤ g) → NB w' w.heap.size w1.heap.size (leafPN.full x (evT X k)) ∧ (∀ g, x.ownBlock = some g → y'.ownBlock = some g → False) ∧ w'.heap[w.heap.size]? = some (.cells (pnCells nv).toArray 57 (0, 0)) ∧ ChgT w.heap.size [57, 148] wa w') := by
            intro w' y' a1 a2 a3
            refine ⟨n2.keep n1 (Ne.symm n12) a2 (fun g p q => hap g q p), fun g g1 g2 => ?_, tq _ _ _ n2 (Ne.symm n02) w' a2, hch.trans (a2.chg n2)⟩
            rcases a3 g g2 with e | e
            · exact hap g g1 e
            · have := (n1.row.lt g g1).2; omega
          generalize X[k] = a at *
          replace hl : Hid _ := hl
          clear ee eo n1 n2 hap hq hch tq hx2
          go_wp2_with fail
          refine Calls.mono hl.out ?_
          rintro e w' ⟨rfl, y', a1, a2, a3⟩
          obtain ⟨m2, m3, m4, m5⟩ := HN.out w' y' a1 a2 a3
          rw [← HO.out] at a1
          rw [← HE.out] at m2
          replace a1 : Hid _ := a1
          replace m2 : Hid _ := m2
          replace m3 : Hid _ := m3
          replace m4 : Hid _ := m4
          replace m5 : Hid _ := m5
          clear hl HN a2 a3 cc HE HO
          go_wp2
          go_roundw
          case rel => exact ⟨k + 1, x, y', by omega, by go_num, m2.out, a1.out, m3.out, m4.out, m5.out⟩
          case measure => simp [intOf]; omega
      · have ek : k = X.length := by omega
        subst ek
        have f1 := (nb_facts n1.blk).1 18
        have f2 := (nb_facts n2.blk).1 18
        simp only [pnCells, List.getElem?_toArray, List.getElem?_cons_succ, List.getElem?_cons_zero] at f1 f2
        have hb4 : Below w.heap.size w wr := hbwa.out.trans ((hch.below sza).mono (Nat.le_refl _))
        have hpM1 : Hid ((pnCells (leafPN.full x (evT X X.length))).toArray.all (·.oneCell') = true) := pn_one _ (by obtain ⟨ao, cap, e, _⟩ := ownsRow_cells n1.row; exact ⟨_, _, _, e⟩)
        have hpM2 : Hid ((pnCells (leafPN.full y (odT X X.length))).toArray.all (·.oneCell') = true) := pn_one _ (by obtain ⟨ao, cap, e, _⟩ := ownsRow_cells n2.row; exact ⟨_, _, _, e⟩)
        have ap12 : Hid (∀ g, (leafPN.full x (evT X X.length)).iv.ownBlock = some g → (leafPN.full y (odT X X.length)).iv.ownBlock = some g → False) := hap
        have TC : True := trivial
        have hq0 := hq
        have N1 := n1
        have N2 := n2
        replace N1 : Hid _ := N1
        replace N2 : Hid _ := N2
        replace hb4 : Hid _ := hb4
        replace hq0 : Hid _ := hq0
        have e0' := e0F.out x y
        replace e0' : Hid _ := e0'
        have htg0 : Hid (∀ t : Int, t = (((evT X X.length).length : Int) + ((odT X X.length).length : Int)) % 2 → t = ((leafPN.full x (evT X X.length)).puts + (leafPN.full y (odT X X.length)).puts) % 2) := fun t e => e
        generalize hm1 : leafPN.full x (evT X X.length) = m1 at *
        generalize hm2 : leafPN.full y (odT X X.length) = m2 at *
        generalize (evT X X.length).length = c1 at *
        generalize (odT X X.length).length = c2 at *
        clear n1 n2 hap hq hch SX HA HL e0F
        obtain ⟨w4, hw4⟩ : ∃ w4, w4 = wr := ⟨_, rfl⟩
        subst hw4
        go_wp2_with fail
        have htg := htg0.out _ rfl
        generalize ((c1 : Int) + (c2 : Int)) % 2 = tg at *
        replace htg : Hid _ := htg
        clear TC
        obtain ⟨ka, kb, hw5⟩ := T1.out w4 { innerPN with inside := nv.inside, toggle := tg } (R.out w4 hb4.out) hq0.out rfl rfl
        replace ka : Hid _ := ka
        replace kb : Hid _ := kb
        have htree : w4.drew.heap[L.tb]? = _ := (R.out w4 hb4.out).tree
        have hp5 : Hid ((pnCells { innerPN with inside := nv.inside, toggle := tg }).toArray.all (·.oneCell') = true) := pn_one _ ⟨_, _, _, rfl⟩
        replace hw5 : Hid _ := hw5
        replace htree : Hid _ := htree
        refine wp_region_held_drew (S := fun W => W.cell? ⟨w.heap.size, 3, none⟩ = some (I nv.inside) ∧ W.there L.tb (8 + v * 21) 21) (by kernel_rfl) ka.out (fun hHeld => ?_)
        refine take_at 0 60 (.pointer (some ⟨L.tb, 0, none⟩)) rfl rfl (by kernel_rfl) (by kernel_rfl) (by kernel_rfl) (fun _ _ _ h => h) (Or.inl ⟨by rfl, fun _ _ => by rfl⟩) hHeld ?_
        simp only [Act.put, List.setIfInBounds_toArray, List.set_cons_succ]
        refine take_at 1 61 (I v) rfl rfl (by kernel_rfl) (by kernel_rfl) (by kernel_rfl) (fun _ _ _ h => h) (Or.inl ⟨by rfl, fun _ _ => by rfl⟩) hHeld ?_
        simp only [Act.put, List.setIfInBounds_toArray, List.set_cons_succ]
        refine take_at 2 62 (.pointer (some ⟨w.heap.size, 3, none⟩)) rfl rfl (by kernel_rfl) (by kernel_rfl) (by kernel_rfl) (fun _ _ _ h => h) (Or.inl ⟨by rfl, fun W _ => run_field3 _ _ _ rfl w.heap.size rfl W⟩) hHeld ?_
        simp only [Act.put, List.setIfInBounds_toArray, List.set_cons_succ]
        refine take_at 3 63 (I nv.inside) rfl rfl (by kernel_rfl) (by kernel_rfl) (by kernel_rfl) (fun _ _ _ h => h) (Or.inl ⟨by rfl, fun W hS => run_load3 _ _ _ rfl w.heap.size nv.inside rfl W hS.1⟩) hHeld ?_
        simp only [Act.put, List.setIfInBounds_toArray, List.set_cons_succ]
        refine take_at 4 64 (I tg) rfl rfl (by kernel_rfl) (by kernel_rfl) (by kernel_rfl) (fun _ _ _ h => h) (Or.inl ⟨by rfl, fun _ _ => by rfl⟩) hHeld ?_
        simp only [Act.put, List.setIfInBounds_toArray, List.set_cons_succ]
        refine take_at 5 65 (.agg (pnCells { innerPN with inside := nv.inside, toggle := tg }).toArray) rfl rfl (by kernel_rfl) (by kernel_rfl) (by kernel_rfl) (fun _ _ _ h => h) (Or.inl ⟨by rfl, fun W _ => run_inner _ _ _ _ rfl nv.inside tg rfl rfl rfl rfl W⟩) hHeld ?_
        simp only [Act.put, List.setIfInBounds_toArray, List.set_cons_succ]
        refine take_at 6 66 (.pointer (some ⟨L.tb, 0, none⟩)) rfl rfl (by kernel_rfl) (by kernel_rfl) (by kernel_rfl) (fun _ _ _ h => h) (Or.inl ⟨by rfl, fun _ _ => by rfl⟩) hHeld ?_
        simp only [Act.put, List.setIfInBounds_toArray, List.set_cons_succ]
        refine take_at 7 67 (.pointer (some ⟨L.tb, 8, none⟩)) rfl rfl (by kernel_rfl) (by kernel_rfl) (by kernel_rfl) (fun _ _ _ h => h) (Or.inl ⟨by rfl, fun W _ => run_nodes _ _ _ rfl L.tb rfl W⟩) hHeld ?_
        simp only [Act.put, List.setIfInBounds_toArray, List.set_cons_succ]
        refine take_at 8 68 (.pointer (some ⟨L.tb, 8 + v * 21, none⟩)) rfl rfl (by kernel_rfl) (by kernel_rfl) (by kernel_rfl) (fun _ _ _ h => h) (Or.inl ⟨by rfl, fun W _ => run_node _ _ _ _ rfl L.tb v rfl rfl (by omega) W⟩) hHeld ?_
        simp only [Act.put, List.setIfInBounds_toArray, List.set_cons_succ]
        refine wpAnyH_ready (rs := [9]) (by kernel_rfl) (by simp) ?_
        refine AllReadyH.cons rfl (fun K hK => ?_) AllReadyH.nil
        rw [if_pos (by rfl)]
        refine wp_store_mid _ _ _ rfl L.tb (8 + v * 21) (pnCells { innerPN with inside := nv.inside, toggle := tg }).toArray rfl rfl hHeld.2 (by rw [pn_size]; exact Tryz.size57) hp5.out ?_
        refine hK.out _ _ kb.out (fun hHeld => ?_)
        refine wpAnyH_done (by kernel_rfl) ?_ _
        simp only [Act.put]
        clear hHeld hK
        clear ka kb
        have hw5' := hw5.out
        have ew : w4.drew.setCells L.tb (8 + v * 21) (pnCells { innerPN with inside := nv.inside, toggle := tg }).toArray.toList = w4.drew.setCells L.tb (8 + v * 21) (pnCells { innerPN with inside := nv.inside, toggle := tg }) := rfl
        rw [ew]
        clear ew hw5
        generalize w4.drew.setCells L.tb (8 + v * 21) (pnCells { innerPN with inside := nv.inside, toggle := tg }) = w5 at *
        have N15 : w5.heap[w1.heap.size]? = some (.cells (pnCells m1).toArray 57 (0, 0)) := by rw [hw5'.heap _ nt1]; exact N1.out.blk
        have N25 : w5.heap[w2.heap.size]? = some (.cells (pnCells m2).toArray 57 (0, 0)) := by rw [hw5'.heap _ nt2]; exact N2.out.blk
        have Q15 := ownsRow_block_kept (ownsRow_below N1.out.row (Below.refl _ _).drew (Nat.le_refl _)) htree.out (by decide) hw5'.heap
        have Q25 := ownsRow_block_kept (ownsRow_below N2.out.row (Below.refl _ _).drew (Nat.le_refl _)) htree.out (by decide) hw5'.heap
        have hl5 : 2 * v < (L.nodes.set v { innerPN with inside := nv.inside, toggle := tg }).length := by simpa using h0'
        obtain ⟨kc, kd, hw6⟩ := T2.out w5 { L with nodes := L.nodes.set v { innerPN with inside := nv.inside, toggle := tg } } (2 * v) w1.heap.size m1 hw5'.rep rfl hl5 nt1 N15 Q15 (fun k hk hne g e1 e2 => by
          have hk' : k < L.nodes.length := by simpa using hk
          by_cases e : k = v
          · subst e
            simp only [List.getElem_set_self] at e1
            simp [innerPN, Value.ownBlock] at e1
          · simp only [List.getElem_set_ne (Ne.symm e)] at e1
            have a1 := IR.out k hk' g e1
            have a2 := (N1.out.row.lt g e2).1
            omega)
        have htree6 : w5.drew.heap[L.tb]? = _ := hw5'.rep.tree
        replace htree6 : Hid _ := htree6
        replace kc : Hid _ := kc
        replace kd : Hid _ := kd
        replace hw6 : Hid _ := hw6
        replace hw5' : Hid _ := hw5'
        replace N25 : Hid _ := N25
        replace Q25 : Hid _ := Q25
        clear N15 Q15 hp5 htree hl5
        go_wp2_with fail
        refine wp_region_held_drew (S := fun W => CopyS L.tb (8 + (2 * v) * 21) w1.heap.size m1 W) (by kernel_rfl) kc.out (fun hHeld => ?_)
        refine take_at 0 69 (.pointer (some ⟨L.tb, 0, none⟩)) rfl rfl (by kernel_rfl) (by kernel_rfl) (by kernel_rfl) (fun _ _ _ h => h) (Or.inl ⟨by rfl, fun _ _ => by rfl⟩) hHeld ?_
        simp only [Act.put, List.setIfInBounds_toArray, List.set_cons_succ]
        refine take_at 1 70 (I v) rfl rfl (by kernel_rfl) (by kernel_rfl) (by kernel_rfl) (fun _ _ _ h => h) (Or.inl ⟨by rfl, fun _ _ => by rfl⟩) hHeld ?_
        simp only [Act.put, List.setIfInBounds_toArray, List.set_cons_succ]
        refine take_at 2 71 (I ((2 * v : Nat) : Int)) rfl rfl (by kernel_rfl) (by kernel_rfl) (by kernel_rfl) (fun _ _ _ h => h) (Or.inl ⟨by rfl, fun W _ => run_twice _ _ _ rfl v rfl rfl (by omega) W⟩) hHeld ?_
        simp only [Act.put, List.setIfInBounds_toArray, List.set_cons_succ]
        refine take_at 3 72 (.agg (pnCells m1).toArray) rfl rfl (by kernel_rfl) (by kernel_rfl) (by kernel_rfl) (fun _ _ _ h => h) (yieldsIf_load_mid (by rfl) _ _ rfl _ _ rfl _ ud (fun _ hS => hS.1) hu1 hu2 (Tryz.isz57 m1)) hHeld ?_
        simp only [Act.put, List.setIfInBounds_toArray, List.set_cons_succ]
        refine take_at 4 73 (.pointer (some ⟨L.tb, 0, none⟩)) rfl rfl (by kernel_rfl) (by kernel_rfl) (by kernel_rfl) (fun _ _ _ h => h) (Or.inl ⟨by rfl, fun _ _ => by rfl⟩) hHeld ?_
        simp only [Act.put, List.setIfInBounds_toArray, List.set_cons_succ]
        refine take_at 5 74 (.pointer (some ⟨L.tb, 8, none⟩)) rfl rfl (by kernel_rfl) (by kernel_rfl) (by kernel_rfl) (fun _ _ _ h => h) (Or.inl ⟨by rfl, fun W _ => run_nodes _ _ _ rfl L.tb rfl W⟩) hHeld ?_
        simp only [Act.put, List.setIfInBounds_toArray, List.set_cons_succ]
        refine take_at 6 75 (.pointer (some ⟨L.tb, 8 + (2 * v) * 21, none⟩)) rfl rfl (by kernel_rfl) (by kernel_rfl) (by kernel_rfl) (fun _ _ _ h => h) (Or.inl ⟨by rfl, fun W _ => run_node _ _ _ _ rfl L.tb (2 * v) rfl rfl (by omega) W⟩) hHeld ?_
        simp only [Act.put, List.setIfInBounds_toArray, List.set_cons_succ]
        refine wpAnyH_ready (rs := [7]) (by kernel_rfl) (by simp) ?_
        refine AllReadyH.cons rfl (fun K hK => ?_) AllReadyH.nil
        rw [if_pos (by rfl)]
        refine wp_store_mid _ _ _ rfl L.tb (8 + (2 * v) * 21) (pnCells m1).toArray rfl rfl hHeld.2 (by rw [pn_size]; exact Tryz.size57) hpM1.out ?_
        refine hK.out _ _ kd.out (fun hHeld => ?_)
        refine wpAnyH_done (by kernel_rfl) ?_ _
        simp only [Act.put]
        clear hHeld hK
        clear kc kd
        have hw6' := hw6.out
        have ew : w5.drew.setCells L.tb (8 + (2 * v) * 21) (pnCells m1).toArray.toList = w5.drew.setCells L.tb (8 + (2 * v) * 21) (pnCells m1) := rfl
        rw [ew]
        clear ew hw6
        generalize w5.drew.setCells L.tb (8 + (2 * v) * 21) (pnCells m1) = w6 at *
        have N26 : w6.heap[w2.heap.size]? = some (.cells (pnCells m2).toArray 57 (0, 0)) := by rw [hw6'.heap _ nt2]; exact N25.out
        have Q26 := ownsRow_block_kept (ownsRow_below Q25.out (Below.refl _ _).drew (Nat.le_refl _)) htree6.out (by decide) hw6'.heap
        have hl6 : 2 * v + 1 < ((L.nodes.set v { innerPN with inside := nv.inside, toggle := tg }).set (2 * v) m1).length := by simpa using h1'
        obtain ⟨ke, kf, hw7⟩ := T2.out w6 { L with nodes := (L.nodes.set v { innerPN with inside := nv.inside, toggle := tg }).set (2 * v) m1 } (2 * v + 1) w2.heap.size m2 hw6'.rep rfl hl6 nt2 N26 Q26 (fun k hk hne g e1 e2 => by
          have hk' : k < L.nodes.length := by simpa using hk
          by_cases e0 : k = 2 * v
          · subst e0
            simp only [List.getElem_set_self] at e1
            exact ap12.out g e1 e2
          · simp only [List.getElem_set_ne (Ne.symm e0)] at e1
            by_cases e : k = v
            · subst e
              simp only [List.getElem_set_self] at e1
              simp [innerPN, Value.ownBlock] at e1
            · simp only [List.getElem_set_ne (Ne.symm e)] at e1
              have a1 := IR.out k hk' g e1
              have a2 := (N2.out.row.lt g e2).1
              omega)
        replace ke : Hid _ := ke
        replace kf : Hid _ := kf
        replace hw7 : Hid _ := hw7
        replace hw6' : Hid _ := hw6'
        clear N25 Q25 N26 Q26 htree6 hl6
        go_wp2_with fail
        refine wp_region_held_drew (S := fun W => CopyS L.tb (8 + (2 * v + 1) * 21) w2.heap.size m2 W) (by kernel_rfl) ke.out (fun hHeld => ?_)
        refine take_at 0 76 (.pointer (some ⟨L.tb, 0, none⟩)) rfl rfl (by kernel_rfl) (by kernel_rfl) (by kernel_rfl) (fun _ _ _ h => h) (Or.inl ⟨by rfl, fun _ _ => by rfl⟩) hHeld ?_
        simp only [Act.put, List.setIfInBounds_toArray, List.set_cons_succ]
        refine take_at 1 77 (I v) rfl rfl (by kernel_rfl) (by kernel_rfl) (by kernel_rfl) (fun _ _ _ h => h) (Or.inl ⟨by rfl, fun _ _ => by rfl⟩) hHeld ?_
        simp only [Act.put, List.setIfInBounds_toArray, List.set_cons_succ]
        refine take_at 2 78 (I ((2 * v : Nat) : Int)) rfl rfl (by kernel_rfl) (by kernel_rfl) (by kernel_rfl) (fun _ _ _ h => h) (Or.inl ⟨by rfl, fun W _ => run_twice _ _ _ rfl v rfl rfl (by omega) W⟩) hHeld ?_
        simp only [Act.put, List.setIfInBounds_toArray, List.set_cons_succ]
        refine take_at 3 79 (I ((2 * v + 1 : Nat) : Int)) rfl rfl (by kernel_rfl) (by kernel_rfl) (by kernel_rfl) (fun _ _ _ h => h) (Or.inl ⟨by rfl, fun W _ => run_more _ _ _ rfl v rfl rfl (by omega) W⟩) hHeld ?_
        simp only [Act.put, List.setIfInBounds_toArray, List.set_cons_succ]
        refine take_at 4 80 (.agg (pnCells m2).toArray) rfl rfl (by kernel_rfl) (by kernel_rfl) (by kernel_rfl) (fun _ _ _ h => h) (yieldsIf_load_mid (by rfl) _ _ rfl _ _ rfl _ ud (fun _ hS => hS.1) hu1 hu2 (Tryz.isz57 m2)) hHeld ?_
        simp only [Act.put, List.setIfInBounds_toArray, List.set_cons_succ]
        refine take_at 5 81 (.pointer (some ⟨L.tb, 0, none⟩)) rfl rfl (by kernel_rfl) (by kernel_rfl) (by kernel_rfl) (fun _ _ _ h => h) (Or.inl ⟨by rfl, fun _ _ => by rfl⟩) hHeld ?_
        simp only [Act.put, List.setIfInBounds_toArray, List.set_cons_succ]
        refine take_at 6 82 (.pointer (some ⟨L.tb, 8, none⟩)) rfl rfl (by kernel_rfl) (by kernel_rfl) (by kernel_rfl) (fun _ _ _ h => h) (Or.inl ⟨by rfl, fun W _ => run_nodes _ _ _ rfl L.tb rfl W⟩) hHeld ?_
        simp only [Act.put, List.setIfInBounds_toArray, List.set_cons_succ]
        refine take_at 7 83 (.pointer (some ⟨L.tb, 8 + (2 * v + 1) * 21, none⟩)) rfl rfl (by kernel_rfl) (by kernel_rfl) (by kernel_rfl) (fun _ _ _ h => h) (Or.inl ⟨by rfl, fun W _ => run_node _ _ _ _ rfl L.tb (2 * v + 1) rfl rfl (by omega) W⟩) hHeld ?_
        simp only [Act.put, List.setIfInBounds_toArray, List.set_cons_succ]
        refine wpAnyH_ready (rs := [8]) (by kernel_rfl) (by simp) ?_
        refine AllReadyH.cons rfl (fun K hK => ?_) AllReadyH.nil
        rw [if_pos (by rfl)]
        refine wp_store_mid _ _ _ rfl L.tb (8 + (2 * v + 1) * 21) (pnCells m2).toArray rfl rfl hHeld.2 (by rw [pn_size]; exact Tryz.size57) hpM2.out ?_
        refine hK.out _ _ kf.out (fun hHeld => ?_)
        refine wpAnyH_done (by kernel_rfl) ?_ _
        simp only [Act.put]
        clear hHeld hK
        clear ke kf
        have hw7' := hw7.out
        have ew : w6.drew.setCells L.tb (8 + (2 * v + 1) * 21) (pnCells m2).toArray.toList = w6.drew.setCells L.tb (8 + (2 * v + 1) * 21) (pnCells m2) := rfl
        rw [ew]
        clear ew hw7
        generalize w6.drew.setCells L.tb (8 + (2 * v + 1) * 21) (pnCells m2) = w7 at *
        replace hw7' : Hid _ := hw7'
        go_wp2_with fail
        go_end0
        have dr : ∀ W : World, ChgT B [61] W W.drew := fun W => ChgT.of_below (Below.refl _ _).drew
        have hfin := hw7'.out.rep
        refine ⟨rfl, ⟨x, y, ?_⟩, ((((((ChgT.of_below hb4.out).trans (dr _)).trans hw5'.out.chg).trans (dr _)).trans hw6'.out.chg).trans (dr _)).trans hw7'.out.chg⟩
        have e2 : unfV L v m1 m2 = { innerPN with inside := nv.inside, toggle := tg } := by
          unfold unfV
          rw [gv.out, htg.out]
        rw [e0'.out.1, e0'.out.2, e2]
        exact hfin

theorem UnfoldPost.from {B : Nat} {L : PLay} {v : Nat} {a b c : World} (hb : Below a.heap.size a b) (h : UnfoldPost B L v b c) : UnfoldPost B L v a c := ⟨h.1, (ChgT.of_below hb).trans h.2⟩
theorem FoldPost.from {B : Nat} {L : PLay} {v : Nat} {a b c : World} (hb : Below a.heap.size a b) (h : FoldPost B L v b c) : FoldPost B L v a c := ⟨h.1, (ChgT.of_below hb).trans h.2⟩

section
variable {w : World} {B : Nat} {L : PLay} {v : Nat}

set_option maxHeartbeats 2000000 in
theorem pchange_unfold (_h : PRep w B L) (ov : Int) (hc : ∀ W, Below w.heap.size w W → Calls Tryz.prog 118 #[.pointer (some ⟨L.tb, 0, none⟩), I v] W fun e w' => e = .returned (.tuple #[]) ∧ UnfoldPost B L v W w') :
    Calls Tryz.prog 107 #[.pointer (some ⟨L.tb, 0, none⟩), opV ⟨4, ov, v⟩] w fun e w' => e = .returned (I 1) ∧ UnfoldPost B L v w w' := by
  have hb : Below w.heap.size w (w.alloc (.cells #[I 4, I ov, I v] 77)) := (Below.refl _ _).alloc (Nat.le_refl _) _
  have hu := hc _ hb
  have HP : Hid (∀ w', UnfoldPost B L v (w.alloc (.cells #[I 4, I ov, I v] 77)) w' → UnfoldPost B L v w w') := fun w' x => x.from hb
  replace hu : Hid _ := hu
  unfold opV
  clear _h hb hc
  go_enter Tryz.func107, Tryz.ntmps107
  go_wp2_with fail
  refine Calls.mono hu.out ?_
  rintro e w' ⟨rfl, hp⟩
  go_wp2_with fail
  go_ret
  exact ⟨rfl, HP.out _ hp⟩

set_option maxHeartbeats 4000000 in
theorem pchange_not (h : PRep w B L) (ov : Int) (hv1 : 1 ≤ v) (hv : 2 * v + 1 < 32) (h0' : 2 * v < L.nodes.length) (h1' : 2 * v + 1 < L.nodes.length) (hin : (L.nodes[2 * v]).inner = true ∨ (L.nodes[2 * v + 1]).inner = true) :
    Calls Tryz.prog 107 #[.pointer (some ⟨L.tb, 0, none⟩), opV ⟨3, ov, v⟩] w fun e w' => e = .returned (I 4) ∧ Below w.heap.size w w' := by
  have d0 := h.ncell (2 * v) h0' 1 (by omega)
  have d1 := h.ncell (2 * v + 1) h1' 1 (by omega)
  have hsz := h.size
  simp only [pnCells, List.getElem?_cons_succ, List.getElem?_cons_zero] at d0 d1
  have hb : Below w.heap.size w (w.alloc (.cells #[I 3, I ov, I v] 77)) := (Below.refl _ _).alloc (Nat.le_refl _) _
  have HB : Hid _ := hb
  generalize (L.nodes[2 * v]).inner = i0 at *
  generalize (L.nodes[2 * v + 1]).inner = i1 at *
  unfold opV
  clear h hb
  cases i0
  · have e1 : i1 = true := by simpa using hin
    subst e1
    clear hin
    go_enter Tryz.func107, Tryz.ntmps107
    go_wp2_with fail
    go_quiet (fail)
    go_wp2
    go_ret
    exact ⟨rfl, Below.drewN' HB.out _⟩
  · clear hin
    go_enter Tryz.func107, Tryz.ntmps107
    go_wp2_with fail
    go_quiet (fail)
    go_wp2
    go_ret
    exact ⟨rfl, Below.drewN' HB.out _⟩

set_option maxHeartbeats 4000000 in
theorem pchange_fold (h : PRep w B L) (ov : Int) (hv1 : 1 ≤ v) (hv : 2 * v + 1 < 32) (h0' : 2 * v < L.nodes.length) (h1' : 2 * v + 1 < L.nodes.length) (hin0 : (L.nodes[2 * v]).inner = false) (hin1 : (L.nodes[2 * v + 1]).inner = false) (hc : ∀ W, Below w.heap.size w W → Calls Tryz.prog 119 #[.pointer (some ⟨L.tb, 0, none⟩), I v] W fun e w' => e = .returned (.tuple #[]) ∧ FoldPost B L v W w') :
    Calls Tryz.prog 107 #[.pointer (some ⟨L.tb, 0, none⟩), opV ⟨3, ov, v⟩] w fun e w' => e = .returned (I 1) ∧ FoldPost B L v w w' := by
  have d0 := h.ncell (2 * v) h0' 1 (by omega)
  have d1 := h.ncell (2 * v + 1) h1' 1 (by omega)
  have hsz := h.size
  simp only [pnCells, List.getElem?_cons_succ, List.getElem?_cons_zero] at d0 d1
  rw [hin0] at d0
  rw [hin1] at d1
  have hb : Below w.heap.size w (w.alloc (.cells #[I 3, I ov, I v] 77)) := (Below.refl _ _).alloc (Nat.le_refl _) _
  have HB : Hid _ := hb
  have HP : Hid (∀ W w', Below w.heap.size w W → FoldPost B L v W w' → FoldPost B L v w w') := fun W w' x y => y.from x
  replace hc : Hid _ := hc
  unfold opV
  clear h hb hin0 hin1
  go_enter Tryz.func107, Tryz.ntmps107
  go_wp2_with fail
  go_quiet (fail)
  go_wp2_with fail
  refine Calls.mono (hc.out _ (Below.drewN' HB.out _)) ?_
  rintro e w' ⟨rfl, hp⟩
  have hp' := HP.out _ w' (Below.drewN' HB.out _) hp
  replace hp' : Hid _ := hp'
  clear hp
  go_wp2_with fail
  go_ret
  exact ⟨rfl, hp'.out⟩
end

section
variable {w : World} {B : Nat} {L : PLay} {v i g : Nat} {W : World} {n : PN} {q : PP}

set_option maxHeartbeats 4000000 in
theorem atTarget_change (h : PF w B L v i g W n q) (hph : q.phase = 17) (hn0 : 0 ≤ q.node) (hn : q.node ≤ 1000000) {R : Int → PLay → PN → Prop}
    (hc : ∀ W', Below W.heap.size W W' → Calls Tryz.prog 107 #[.pointer (some ⟨L.tb, 0, none⟩), opV ⟨q.kind, q.oval, q.onode⟩] W' fun e w' => ∃ r L1 n1, e = .returned (I r) ∧ L1.tb = L.tb ∧ PF w B L1 v i g w' n1 q ∧ R r L1 n1) :
    Calls Tryz.prog 71 #[.pointer (some ⟨L.tb, 0, none⟩), .pointer (some ⟨g, i * 11, none⟩), .pointer (some ⟨L.tb, 8 + v * 21, none⟩)] W fun e w' => e = .returned (.tuple #[]) ∧ ∃ r L1 n1, L1.tb = L.tb ∧ PF w B L1 v i g w' { n1 with shut := false } (leavePP { q with val := r }) ∧ R r L1 n1 := by
  have c0 := h.pcell 0 (by omega)
  have c1 := h.pcell 1 (by omega)
  have c2 := h.pcell 2 (by omega)
  have c3 := h.pcell 3 (by omega)
  simp only [ppCells, List.getElem?_cons_succ, List.getElem?_cons_zero, Nat.add_zero] at c0 c1 c2 c3
  rw [hph] at c3
  have HA : Hid (∀ w' r L1 n1, L1.tb = L.tb → PF w B L1 v i g w' n1 q → (w'.cell? ⟨g, i * 11 + 5, none⟩ = some (I q.val) ∧ (∀ k, w'.frozen? ⟨g, k, none⟩ = false) ∧ (w'.setCell ⟨g, i * 11 + 5, none⟩ (I r)).cell? ⟨L.tb, 8 + v * 21 + 2, none⟩ = some (.bool n1.shut) ∧ (∀ k, (w'.setCell ⟨g, i * 11 + 5, none⟩ (I r)).frozen? ⟨L.tb, k, none⟩ = false)) ∧
      (Calls Tryz.prog 72 #[.pointer (some ⟨g, i * 11, none⟩)] ((w'.setCell ⟨g, i * 11 + 5, none⟩ (I r)).setCell ⟨L.tb, 8 + v * 21 + 2, none⟩ (.bool false)) fun e w' => e = .returned (.tuple #[]) ∧ PF w B L1 v i g w' { n1 with shut := false } (leavePP { q with val := r }))) := by
    intro w' r L1 n1 htb hf
    have a5 := hf.pcell 5 (by omega)
    have s1 := hf.setQ 5 (by omega) (I r) { q with val := r } rfl
    have d2 := s1.ncell 2 (by omega)
    have fn := s1.fzN
    simp only [ppCells, pnCells, List.getElem?_cons_succ, List.getElem?_cons_zero] at a5 d2
    rw [htb] at d2 fn
    refine ⟨⟨a5, hf.fzQ, d2, fn⟩, ?_⟩
    have s2 := (hf.setQ 5 (by omega) (I r) { q with val := r } rfl).setN 2 (by omega) (.bool false) { n1 with shut := false } rfl rfl rfl
    rw [htb] at s2
    exact leave_c s2 hn0 hn
  have hne := h.ne
  unfold opV at hc
  replace hc : Hid _ := hc
  clear h hph
  go_enter Tryz.func71, Tryz.ntmps71
  go_wp2_with fail
  refine Calls.mono (hc.out _ (Below.refl _ _)) ?_
  rintro e w' ⟨r, L1, n1, rfl, htb, hf, hR⟩
  obtain ⟨⟨a5, a6, a7, a8⟩, hl⟩ := HA.out w' r L1 n1 htb hf
  replace hl : Hid _ := hl
  replace hR : Hid _ := hR
  replace htb : Hid _ := htb
  clear HA hc c0 c1 c2 c3 hf
  go_wp2_with fail
  refine Calls.mono hl.out ?_
  rintro e w2 ⟨rfl, hf2⟩
  go_wp2_with fail
  go_end0
  exact ⟨rfl, r, L1, n1, htb.out, hf2, hR.out⟩
end

end Go.Proofs.YtjnmpejcegmkhaaGreatDoor
