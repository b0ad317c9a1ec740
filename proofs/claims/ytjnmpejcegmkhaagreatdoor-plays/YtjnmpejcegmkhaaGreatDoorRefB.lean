/- Contracts of the statements' own comparisons (package prismlaw): of two answers that are alike they say so. The contract of package prismref's Spawn. No statement of the seat is proved here. -/
import Derived.Test.YtjnmpejcegmkhaaGreatDoorRefA
import Derived.Deep.RegionWith
import Derived.Deep.QuietTactic
import Derived.BigQuiet
namespace Go.Proofs.YtjnmpejcegmkhaaGreatDoor
open Go.RowKit

theorem Below.drewN' {B : Nat} {a w : World} (h : Below B a w) (n : Nat) : Below B a (w.drewN n) := by
  induction n with
  | zero => exact h
  | succ n ih => exact ih.drew

theorem ndsCells_at (l : List (ND × Value × Value)) (k : Nat) (hk : k < l.length) (j : Nat) (hj : j < 12) : (ndsCells l)[k * 12 + j]? = (ndCells (l[k]).1 (l[k]).2.1 (l[k]).2.2)[j]? := by
  induction l generalizing k with
  | nil => simp at hk
  | cons x l ih =>
    have hx : (ndCells x.1 x.2.1 x.2.2).length = 12 := rfl
    cases k with
    | zero =>
      simp only [ndsCells, List.flatMap_cons, Nat.zero_mul, Nat.zero_add, List.getElem_cons_zero]
      rw [List.getElem?_append_left (by omega)]
    | succ k =>
      simp only [ndsCells, List.flatMap_cons, List.getElem_cons_succ]
      rw [List.getElem?_append_right (by omega), hx, show (k + 1) * 12 + j - 12 = k * 12 + j from by omega]
      exact ih k (by simpa using hk)

theorem nodes_at {w : World} {b : Nat} {x : Value} {l : List (ND × Value × Value)} (h : NodesRep w b x l) (k : Nat) (hk : k < l.length) :
    ∃ g, (∀ ao n c, x = .slice ao n c → ao = some ⟨g, 0, none⟩) ∧ g < w.heap.size ∧ ∀ j, j < 12 → w.cell? ⟨g, k * 12 + j, none⟩ = (ndCells (l[k]).1 (l[k]).2.1 (l[k]).2.2)[j]? := by
  obtain ⟨ao, cap, h1, h2, h3, h4, h5⟩ := ownsRow_cells h.row
  have key : ∀ j, j < 12 → ∃ g, ao = some ⟨g, 0, none⟩ ∧ w.cell? ⟨g, k * 12 + j, none⟩ = (ndCells (l[k]).1 (l[k]).2.1 (l[k]).2.2)[j]? := by
    intro j hj
    have e := ndsCells_at l k hk j hj
    have hlt : j < (ndCells (l[k]).1 (l[k]).2.1 (l[k]).2.2).length := hj
    obtain ⟨g, e1, _, c⟩ := h5 (k * 12 + j) ((ndCells (l[k]).1 (l[k]).2.1 (l[k]).2.2)[j]) (by rw [e, List.getElem?_eq_getElem hlt])
    exact ⟨g, e1, by rw [c, List.getElem?_eq_getElem hlt]⟩
  obtain ⟨g, rfl, c0⟩ := key 0 (by omega)
  refine ⟨g, fun ao n c hx => by rw [h1] at hx; simp at hx; exact hx.1.symm, ?_, fun j hj => ?_⟩
  · have hlt : 0 < (ndCells (l[k]).1 (l[k]).2.1 (l[k]).2.2).length := by simp [ndCells]
    rw [List.getElem?_eq_getElem hlt] at c0
    exact cell_lt c0
  · obtain ⟨g', e, c⟩ := key j hj
    simp at e
    subst e
    exact c

/-- What a program's tree owes to agree with the document's. -/
structure Agree (w : World) (pt : Value) (L : Lay) : Prop where
  nodes : ∀ W, Below w.heap.size w W → Calls Tryz.prog 47 #[pt] W fun e w' => ∃ x l, e = .returned x ∧ NodesRep w' W.heap.size x l ∧ l.map (fun y => y.1) = rnodes L ∧ Below W.heap.size W w'
  proc : ∀ W, Below w.heap.size w W → ∀ p, Calls Tryz.prog 25 #[pt, I p] W fun x w' => x = .returned (procV L p) ∧ Below W.heap.size W w'

theorem cells_new_at' (w : World) (xs : List Value) (T : TypeId) (n : Nat) (hn : n = w.heap.size) : ∀ (j : Nat) (u : Value), xs[j]? = some u → (w.alloc (.cells xs.toArray T)).cell? ((⟨n, 0, none⟩ : Addr).add j) = some u := by
  subst hn; exact cells_new w xs T

structure Op3 where
  kind : Int
  val : Int
  node : Int
def opV (o : Op3) : Value := .agg #[I o.kind, I o.val, I o.node]

def isChange (o : Op3) : Bool := decide (o.kind = 3) || decide (o.kind = 4)

set_option maxHeartbeats 1000000 in
theorem changes_c (o : Op3) (w : World) : Calls Tryz.prog 74 #[opV o] w fun e w' => e = .returned (.bool (isChange o)) ∧ Below w.heap.size w w' := by
  unfold opV
  have HI : Hid (isChange o = (decide (o.kind = 3) || decide (o.kind = 4))) := rfl
  generalize isChange o = b at *
  by_cases h3 : o.kind = 3
  · have b1 : (o.kind == 3) = true := by simp [h3]
    have hb : b = true := by rw [HI.out]; simp [h3]
    subst hb
    clear h3 HI
    go_enter Tryz.func74, Tryz.ntmps74
    go_wp2
    go_ret
    exact ⟨rfl, (Below.refl _ _).alloc (Nat.le_refl _) _⟩
  · have b1 : (o.kind == 3) = false := by simp [h3]
    by_cases h4 : o.kind = 4
    · have b2 : (o.kind == 4) = true := by simp [h4]
      have hb : b = true := by rw [HI.out]; simp [h4]
      subst hb
      clear h3 h4 HI
      go_enter Tryz.func74, Tryz.ntmps74
      go_wp2
      go_ret
      exact ⟨rfl, (Below.refl _ _).alloc (Nat.le_refl _) _⟩
    · have b2 : (o.kind == 4) = false := by simp [h4]
      have hb : b = false := by rw [HI.out]; simp [h3, h4]
      subst hb
      clear h3 h4 HI
      go_enter Tryz.func74, Tryz.ntmps74
      go_wp2
      go_ret
      exact ⟨rfl, (Below.refl _ _).alloc (Nat.le_refl _) _⟩

/-- Has a tree of the configuration c the operation o? -/
def okOp (c : Conf) (o : Op3) : Prop :=
  ((o.kind = 3 ∨ o.kind = 4) ∧ 1 ≤ o.node ∧ o.node < ((2 ^ c.depth.toNat : Nat) : Int)) ∨ (o.kind = 0 ∧ c.kind = 0) ∨ ((o.kind = 1 ∨ o.kind = 2) ∧ c.kind = 1)

def newPr (o : Op3) : Pr := ⟨o.kind, o.val, o.node, if isChange o ∧ o.node = 1 then 15 else 0, 1, 0, 0, 0, 0, 0, -1, 0, 0⟩

theorem RefRep.push {w w1 w2 : World} {B : Nat} {L : Lay} {nb : Nat} {p : Pr} {x : Value} (h : RefRep w B L) (hB : B ≤ w.heap.size) (hw : Below w.heap.size w w1) (hblk : w1.heap[nb]? = some (.cells (prCells p) 109 (0, 0))) (hnb : w.heap.size ≤ nb)
    (ho : w2.ownsRow B 107 1 x (L.procs.length + 1) ((L.procs.map fun p => Value.pointer (some ⟨p.1, 0, none⟩)) ++ [.pointer (some ⟨nb, 0, none⟩)])) (hg : w1.grownBy w2 L.pv.ownBlock) :
    RefRep (w2.setCell ⟨L.tb, 8, none⟩ x) B { L with pv := x, procs := L.procs ++ [(nb, p)] } ∧ ChgT B [65, 107] w (w2.setCell ⟨L.tb, 8, none⟩ x) := by
  have h1 := h.below hw
  have hne : some L.tb ≠ L.pv.ownBlock := by
    intro e
    obtain ⟨c', hc'⟩ := ownsRow_block h.prow e.symm
    rw [h.tree] at hc'
    simp at hc'
  have ht2 : w2.heap[L.tb]? = some (.cells (treeCells L) 65 (0, 0)) := by
    rw [hg.block L.tb (by have := h1.size; omega) hne]; exact h1.tree
  have hch : ChgT B [65, 107] w (w2.setCell ⟨L.tb, 8, none⟩ x) := by
    refine ⟨hg.os.trans hw.os, hg.tape.trans hw.tape, hg.output.trans hw.output, by simpa [World.setCell] using Nat.le_trans hw.size hg.size, fun k hk hc => ?_⟩
    have hkt : k ≠ L.tb := by
      intro e
      subst e
      rcases hc with hc | hc
      · have := h.treeB; omega
      · exact absurd (hc _ _ _ h.tree) (by simp)
    rw [Below.heap_setCell _ _ _ _ hkt, hg.block k (by have := hw.size; omega) (fun he => ?_), hw.block k hk]
    rcases hc with hc | hc
    · have := (h.prow.lt k he.symm).1; omega
    · obtain ⟨c', hc'⟩ := ownsRow_block h.prow he.symm
      exact absurd (hc _ _ _ hc') (by simp)
  refine ⟨?_, hch⟩
  constructor
  · have := nb_set ht2 8 x
    simpa [treeCells, Array.setIfInBounds] using this
  · exact h.treeB
  · have := ownsRow_setCell_type ho ht2 (by decide) 8 x
    simpa using this
  · intro i hi'
    have hi2 : i < L.procs.length + 1 := by simpa using hi'
    by_cases e : i = L.procs.length
    · subst e
      simp only [List.getElem_append_right (Nat.le_refl _), Nat.sub_self, List.getElem_cons_zero]
      refine ⟨?_, Nat.le_trans hB hnb⟩
      have hne2 : nb ≠ L.tb := by have := h.size; omega
      rw [Below.heap_setCell _ _ _ _ hne2, hg.block nb (Array.getElem?_eq_some_iff.1 hblk).1 (fun he => ?_)]
      · exact hblk
      · have := (h.prow.lt nb he.symm).2; omega
    · have hi : i < L.procs.length := by omega
      simp only [List.getElem_append_left hi]
      exact ⟨hch.at (h.pblk i hi).1 (by decide), (h.pblk i hi).2⟩
  · intro i j hi' hj' e
    have hi2 : i < L.procs.length + 1 := by simpa using hi'
    have hj2 : j < L.procs.length + 1 := by simpa using hj'
    have old : ∀ k, (hk : k < L.procs.length) → (L.procs[k]).1 < w.heap.size := fun k hk => (Array.getElem?_eq_some_iff.1 (h.pblk k hk).1).1
    by_cases ei : i = L.procs.length
    · by_cases ej : j = L.procs.length
      · omega
      · exfalso
        have hj : j < L.procs.length := by omega
        subst ei
        simp only [List.getElem_append_right (Nat.le_refl _), Nat.sub_self, List.getElem_cons_zero, List.getElem_append_left hj] at e
        have := old j hj; omega
    · have hi : i < L.procs.length := by omega
      by_cases ej : j = L.procs.length
      · exfalso
        subst ej
        simp only [List.getElem_append_right (Nat.le_refl _), Nat.sub_self, List.getElem_cons_zero, List.getElem_append_left hi] at e
        have := old i hi; omega
      · have hj : j < L.procs.length := by omega
        simp only [List.getElem_append_left hi, List.getElem_append_left hj] at e
        exact h.pnd i j hi hj e
  · exact hch.row h.hrow (by decide)
  · exact fun i hi => hch.row (h.hist i hi) (by decide)
  · exact fun i hi y hy => hch.row (h.items i hi y hy) (by decide)
  · exact h.hnd

theorem Tryz.info107 : (Tryz.prog.info? 107).map (fun i => (i.zero, i.size, i.bytes)) = some (some (.pointer none), 1, 8) := by kernel_rfl

/-- The ways in which an operation is there, as the code asks it. -/
theorem okOp_ways (c : Conf) (o : Op3) (h : okOp c o) : ((o.kind == 0) = true ∧ (c.kind == 0) = true ∧ isChange o = false) ∨ ((o.kind == 0) = false ∧ (o.kind == 1) = true ∧ (c.kind == 1) = true ∧ isChange o = false) ∨ ((o.kind == 0) = false ∧ (o.kind == 1) = false ∧ (o.kind == 2) = true ∧ (c.kind == 1) = true ∧ isChange o = false) ∨
    ((o.kind == 0) = false ∧ (o.kind == 1) = false ∧ (o.kind == 2) = false ∧ isChange o = true ∧ 1 ≤ o.node ∧ o.node < ((2 ^ c.depth.toNat : Nat) : Int)) := by
  rcases h with ⟨h1, h2, h3⟩ | ⟨h1, h2⟩ | ⟨h1, h2⟩
  · exact Or.inr (Or.inr (Or.inr ⟨by simp; omega, by simp; omega, by simp; omega, by simp [isChange]; omega, h2, h3⟩))
  · exact Or.inl ⟨by simp [h1], by simp [h2], by simp [isChange, h1]⟩
  · rcases h1 with h1 | h1
    · exact Or.inr (Or.inl ⟨by simp [h1], by simp [h1], by simp [h2], by simp [isChange, h1]⟩)
    · exact Or.inr (Or.inr (Or.inl ⟨by simp [h1], by simp [h1], by simp [h1], by simp [h2], by simp [isChange, h1]⟩))

set_option maxHeartbeats 8000000 in
theorem rspawn_yes {w : World} {B : Nat} {L : Lay} (h : RefRep w B L) (hB : B ≤ w.heap.size) (o : Op3) (ho : okOp L.c o) (hd0 : 0 ≤ L.c.depth) (hd4 : L.c.depth ≤ 4) (hn : L.procs.length < 256) (hlv : (liveL L.procs : Int) ≠ L.c.procs) :
    Calls Tryz.prog 49 #[.pointer (some ⟨L.tb, 0, none⟩), opV o] w fun e w' => e = .returned (.tuple #[I L.procs.length, I 0]) ∧ (∃ nb x, RefRep w' B { L with pv := x, procs := L.procs ++ [(nb, newPr o)] }) ∧ ChgT B [65, 107] w w' := by
  have hch := fun W => changes_c o W
  have hlive := fun W (hb : Below w.heap.size w W) => live_c (h.below hb)
  have c0 : w.cell? ⟨L.tb, 0, none⟩ = some (I L.c.kind) := by rw [block_cell h.tree]; rfl
  have c1 : w.cell? ⟨L.tb, 1, none⟩ = some (I L.c.depth) := by rw [block_cell h.tree]; rfl
  have c7 : w.cell? ⟨L.tb, 7, none⟩ = some (I L.c.procs) := by rw [block_cell h.tree]; rfl
  have c8 := h.pv_cell
  obtain ⟨ao, cap, e1, q1, q2, q3, hx⟩ := ownsRow_cells h.prow
  clear hx
  rw [e1] at c8
  have l0 := h.size
  obtain ⟨d, hd⟩ := Int.eq_ofNat_of_zero_le hd0
  rw [hd] at c1
  have hd4n : d ≤ 4 := by omega
  have hs := sh_one d (by omega)
  have hdn : L.c.depth.toNat = d := by omega
  have HPU : Hid (∀ w1 w2 nb x, Below w.heap.size w w1 → w1.heap[nb]? = some (.cells (prCells (newPr o)) 109 (0, 0)) → w.heap.size ≤ nb → w2.ownsRow B 107 1 x (L.procs.length + 1) ((L.procs.map fun p => Value.pointer (some ⟨p.1, 0, none⟩)) ++ [.pointer (some ⟨nb, 0, none⟩)]) → w1.grownBy w2 L.pv.ownBlock →
      RefRep (w2.setCell ⟨L.tb, 8, none⟩ x) B { L with pv := x, procs := L.procs ++ [(nb, newPr o)] } ∧ ChgT B [65, 107] w (w2.setCell ⟨L.tb, 8, none⟩ x)) :=
    fun w1 w2 nb x a1 a2 a3 a4 a5 => h.push hB a1 a2 a3 a4 a5
  have hown := h.prow
  have HNT : Hid (some L.tb ≠ L.pv.ownBlock) := by
    intro e
    obtain ⟨c', hc'⟩ := ownsRow_block h.prow e.symm
    rw [h.tree] at hc'
    simp at hc'
  have HFZ : Hid (w.frozen? ⟨L.tb, 8, none⟩ = false) := (nb_facts h.tree).2 8
  rw [e1] at HPU hown HNT
  have bl : ((liveL L.procs : Int) == L.c.procs) = false := by simpa using hlv
  have bn : ((L.procs.length : Int) == 256) = false := by simp; omega
  have hways := okOp_ways L.c o ho
  rw [hdn] at hways
  obtain ⟨P2, hP2⟩ : ∃ P2 : Nat, P2 = 2 ^ d := ⟨_, rfl⟩
  rw [← hP2] at hs hways
  unfold maxLen at q2 q3
  unfold opV at hch ⊢
  replace hch : Hid _ := hch
  replace hlive : Hid _ := hlive
  obtain ⟨i0, hi, hz0, hz1, hz2⟩ := info_parts Tryz.info107
  clear h ho hlv hP2 hdn hd hd0 hd4 e1
  generalize L.c.kind = ck at *
  generalize L.c.procs = cp at *
  generalize liveL L.procs = lv at *
  obtain ⟨kind, val, node⟩ := o
  simp only at *
  rcases hways with ⟨b0, k0, hc⟩ | ⟨b0, b1, k1, hc⟩ | ⟨b0, b1, b2, k1, hc⟩ | ⟨b0, b1, b2, hc, n1, n2⟩
  · rw [hc] at hch
    have HNP : Hid (newPr ⟨kind, val, node⟩ = ⟨kind, val, node, 0, 1, 0, 0, 0, 0, 0, -1, 0, 0⟩) := by show _ = _; simp [newPr, hc]
    clear hc
    go_enter Tryz.func49, Tryz.ntmps49
    go_wp2_with fail
    refine (hch.out _).mono ?_
    rintro e w0 ⟨rfl, hb1⟩
    have nbo : w0.heap[w.heap.size]? = some (.cells #[I kind, I val, I node] 77 (0, 0)) := (hb1.block _ (by simp)).trans (nb_alloc _ _ _)
    have hb2 : Below w.heap.size w w0 := ((Below.refl _ _).alloc (Nat.le_refl _) _).trans (hb1.mono (by simp))
    have l1 : L.tb < w0.heap.size := Nat.lt_of_lt_of_le l0 hb2.size
    have ls := (Array.getElem?_eq_some_iff.1 nbo).1
    have k0' := (hb2.cell (p := ⟨L.tb, 0, none⟩) l0).trans c0
    have k1' := (hb2.cell (p := ⟨L.tb, 1, none⟩) l0).trans c1
    have k7' := (hb2.cell (p := ⟨L.tb, 7, none⟩) l0).trans c7
    have k8' := (hb2.cell (p := ⟨L.tb, 8, none⟩) l0).trans c8
    have hown1 := ownsRow_below hown hb2 (Nat.le_refl _)
    have hsz := hb2.size
    obtain ⟨f1, _⟩ := nb_facts nbo
    clear hb1 c0 c1 c7 c8 hch hown
    go_wp2_with fail
    refine (hlive.out _ hb2).mono ?_
    rintro e w2 ⟨rfl, rfl⟩
    clear hlive
    go_wp2_with (at_builtin; go_must (refine wpList_append_own _ rfl _ _ 63 rfl B 107 i0 (.pointer none) 1 8 Tryz.underlying63 hi hz0 hz1 hz2 rfl (by decide) _ _ _ rfl ((hown1.alloc _).alloc _) ⟨w2.heap.size + 1, 0, none⟩ 1 1 [.pointer (some ⟨w2.heap.size, 0, none⟩)] rfl rfl ?c1 ?c2 ?c3 ?c4 ?c5 ?_))
    case c1 => exact cells_new_at' _ [Value.pointer (some ⟨w2.heap.size, 0, none⟩)] _ _ (by simp)
    case c2 => intro u hu; simp at hu; subst hu; rfl
    case c3 => unfold maxLen; omega
    case c4 => omega
    case c5 => simp; omega
    · intro x' w3 hown' hgrow _
      have hnt := HNT.out
      have ht0 : w3.heap[L.tb]? = w2.heap[L.tb]? := by
        rw [hgrow.block L.tb (by simp; omega) hnt, Below.heap_alloc _ _ _ (by simp; omega), Below.heap_alloc _ _ _ l1]
      have hfin := HPU.out _ w3 w2.heap.size x' ((hb2.alloc hsz _).alloc (by simp; omega) _) (by
        rw [HNP.out, Below.heap_alloc _ _ _ (by simp)]
        exact nb_alloc _ _ _) hsz hown' hgrow
      replace hfin : Hid _ := hfin
      have d8 := (World.cell?_of_block (a := ⟨L.tb, 8, none⟩) ht0).trans k8'
      have d8f : w3.frozen? ⟨L.tb, 8, none⟩ = false := (World.frozen?_of_block (a := ⟨L.tb, 8, none⟩) ht0).trans ((World.frozen?_of_block (a := ⟨L.tb, 8, none⟩) (hb2.block L.tb l0)).trans HFZ.out)
      obtain ⟨ao', cp', rfl, _⟩ := ownsRow_cells hown'
      clear hown' hgrow ht0 HPU HNP f1 k0' k1' k7' k8' hown1 hnt
      go_wp2
      go_ret2
      exact ⟨rfl, ⟨_, _, hfin.out.1⟩, hfin.out.2⟩
  · rw [hc] at hch
    have HNP : Hid (newPr ⟨kind, val, node⟩ = ⟨kind, val, node, 0, 1, 0, 0, 0, 0, 0, -1, 0, 0⟩) := by show _ = _; simp [newPr, hc]
    clear hc
    go_enter Tryz.func49, Tryz.ntmps49
    go_wp2_with fail
    refine (hch.out _).mono ?_
    rintro e w0 ⟨rfl, hb1⟩
    have nbo : w0.heap[w.heap.size]? = some (.cells #[I kind, I val, I node] 77 (0, 0)) := (hb1.block _ (by simp)).trans (nb_alloc _ _ _)
    have hb2 : Below w.heap.size w w0 := ((Below.refl _ _).alloc (Nat.le_refl _) _).trans (hb1.mono (by simp))
    have l1 : L.tb < w0.heap.size := Nat.lt_of_lt_of_le l0 hb2.size
    have ls := (Array.getElem?_eq_some_iff.1 nbo).1
    have k0' := (hb2.cell (p := ⟨L.tb, 0, none⟩) l0).trans c0
    have k1' := (hb2.cell (p := ⟨L.tb, 1, none⟩) l0).trans c1
    have k7' := (hb2.cell (p := ⟨L.tb, 7, none⟩) l0).trans c7
    have k8' := (hb2.cell (p := ⟨L.tb, 8, none⟩) l0).trans c8
    have hown1 := ownsRow_below hown hb2 (Nat.le_refl _)
    have hsz := hb2.size
    obtain ⟨f1, _⟩ := nb_facts nbo
    clear hb1 c0 c1 c7 c8 hch hown
    go_wp2_with fail
    refine (hlive.out _ hb2).mono ?_
    rintro e w2 ⟨rfl, rfl⟩
    clear hlive
    go_wp2_with (at_builtin; go_must (refine wpList_append_own _ rfl _ _ 63 rfl B 107 i0 (.pointer none) 1 8 Tryz.underlying63 hi hz0 hz1 hz2 rfl (by decide) _ _ _ rfl ((hown1.alloc _).alloc _) ⟨w2.heap.size + 1, 0, none⟩ 1 1 [.pointer (some ⟨w2.heap.size, 0, none⟩)] rfl rfl ?c1 ?c2 ?c3 ?c4 ?c5 ?_))
    case c1 => exact cells_new_at' _ [Value.pointer (some ⟨w2.heap.size, 0, none⟩)] _ _ (by simp)
    case c2 => intro u hu; simp at hu; subst hu; rfl
    case c3 => unfold maxLen; omega
    case c4 => omega
    case c5 => simp; omega
    · intro x' w3 hown' hgrow _
      have hnt := HNT.out
      have ht0 : w3.heap[L.tb]? = w2.heap[L.tb]? := by
        rw [hgrow.block L.tb (by simp; omega) hnt, Below.heap_alloc _ _ _ (by simp; omega), Below.heap_alloc _ _ _ l1]
      have hfin := HPU.out _ w3 w2.heap.size x' ((hb2.alloc hsz _).alloc (by simp; omega) _) (by
        rw [HNP.out, Below.heap_alloc _ _ _ (by simp)]
        exact nb_alloc _ _ _) hsz hown' hgrow
      replace hfin : Hid _ := hfin
      have d8 := (World.cell?_of_block (a := ⟨L.tb, 8, none⟩) ht0).trans k8'
      have d8f : w3.frozen? ⟨L.tb, 8, none⟩ = false := (World.frozen?_of_block (a := ⟨L.tb, 8, none⟩) ht0).trans ((World.frozen?_of_block (a := ⟨L.tb, 8, none⟩) (hb2.block L.tb l0)).trans HFZ.out)
      obtain ⟨ao', cp', rfl, _⟩ := ownsRow_cells hown'
      clear hown' hgrow ht0 HPU HNP f1 k0' k1' k7' k8' hown1 hnt
      go_wp2
      go_ret2
      exact ⟨rfl, ⟨_, _, hfin.out.1⟩, hfin.out.2⟩
  · rw [hc] at hch
    have HNP : Hid (newPr ⟨kind, val, node⟩ = ⟨kind, val, node, 0, 1, 0, 0, 0, 0, 0, -1, 0, 0⟩) := by show _ = _; simp [newPr, hc]
    clear hc
    go_enter Tryz.func49, Tryz.ntmps49
    go_wp2_with fail
    refine (hch.out _).mono ?_
    rintro e w0 ⟨rfl, hb1⟩
    have nbo : w0.heap[w.heap.size]? = some (.cells #[I kind, I val, I node] 77 (0, 0)) := (hb1.block _ (by simp)).trans (nb_alloc _ _ _)
    have hb2 : Below w.heap.size w w0 := ((Below.refl _ _).alloc (Nat.le_refl _) _).trans (hb1.mono (by simp))
    have l1 : L.tb < w0.heap.size := Nat.lt_of_lt_of_le l0 hb2.size
    have ls := (Array.getElem?_eq_some_iff.1 nbo).1
    have k0' := (hb2.cell (p := ⟨L.tb, 0, none⟩) l0).trans c0
    have k1' := (hb2.cell (p := ⟨L.tb, 1, none⟩) l0).trans c1
    have k7' := (hb2.cell (p := ⟨L.tb, 7, none⟩) l0).trans c7
    have k8' := (hb2.cell (p := ⟨L.tb, 8, none⟩) l0).trans c8
    have hown1 := ownsRow_below hown hb2 (Nat.le_refl _)
    have hsz := hb2.size
    obtain ⟨f1, _⟩ := nb_facts nbo
    clear hb1 c0 c1 c7 c8 hch hown
    go_wp2_with fail
    refine (hlive.out _ hb2).mono ?_
    rintro e w2 ⟨rfl, rfl⟩
    clear hlive
    go_wp2_with (at_builtin; go_must (refine wpList_append_own _ rfl _ _ 63 rfl B 107 i0 (.pointer none) 1 8 Tryz.underlying63 hi hz0 hz1 hz2 rfl (by decide) _ _ _ rfl ((hown1.alloc _).alloc _) ⟨w2.heap.size + 1, 0, none⟩ 1 1 [.pointer (some ⟨w2.heap.size, 0, none⟩)] rfl rfl ?c1 ?c2 ?c3 ?c4 ?c5 ?_))
    case c1 => exact cells_new_at' _ [Value.pointer (some ⟨w2.heap.size, 0, none⟩)] _ _ (by simp)
    case c2 => intro u hu; simp at hu; subst hu; rfl
    case c3 => unfold maxLen; omega
    case c4 => omega
    case c5 => simp; omega
    · intro x' w3 hown' hgrow _
      have hnt := HNT.out
      have ht0 : w3.heap[L.tb]? = w2.heap[L.tb]? := by
        rw [hgrow.block L.tb (by simp; omega) hnt, Below.heap_alloc _ _ _ (by simp; omega), Below.heap_alloc _ _ _ l1]
      have hfin := HPU.out _ w3 w2.heap.size x' ((hb2.alloc hsz _).alloc (by simp; omega) _) (by
        rw [HNP.out, Below.heap_alloc _ _ _ (by simp)]
        exact nb_alloc _ _ _) hsz hown' hgrow
      replace hfin : Hid _ := hfin
      have d8 := (World.cell?_of_block (a := ⟨L.tb, 8, none⟩) ht0).trans k8'
      have d8f : w3.frozen? ⟨L.tb, 8, none⟩ = false := (World.frozen?_of_block (a := ⟨L.tb, 8, none⟩) ht0).trans ((World.frozen?_of_block (a := ⟨L.tb, 8, none⟩) (hb2.block L.tb l0)).trans HFZ.out)
      obtain ⟨ao', cp', rfl, _⟩ := ownsRow_cells hown'
      clear hown' hgrow ht0 HPU HNP f1 k0' k1' k7' k8' hown1 hnt
      go_wp2
      go_ret2
      exact ⟨rfl, ⟨_, _, hfin.out.1⟩, hfin.out.2⟩
  · have n1' : (1 : Int) ≤ node := n1
    by_cases hn1 : node = 1
    · have bn1 : (node == 1) = true := by simp [hn1]
      rw [hc] at hch
      have HNP : Hid (newPr ⟨kind, val, node⟩ = ⟨kind, val, node, 15, 1, 0, 0, 0, 0, 0, -1, 0, 0⟩) := by show _ = _; rw [newPr, hc]; simp [hn1]
      clear hc hn1
      go_enter Tryz.func49, Tryz.ntmps49
      go_wp2_with fail
      refine (hch.out _).mono ?_
      rintro e w0 ⟨rfl, hb1⟩
      have nbo : w0.heap[w.heap.size]? = some (.cells #[I kind, I val, I node] 77 (0, 0)) := (hb1.block _ (by simp)).trans (nb_alloc _ _ _)
      have hb2 : Below w.heap.size w w0 := ((Below.refl _ _).alloc (Nat.le_refl _) _).trans (hb1.mono (by simp))
      have l1 : L.tb < w0.heap.size := Nat.lt_of_lt_of_le l0 hb2.size
      have ls := (Array.getElem?_eq_some_iff.1 nbo).1
      have k0' := (hb2.cell (p := ⟨L.tb, 0, none⟩) l0).trans c0
      have k1' := (hb2.cell (p := ⟨L.tb, 1, none⟩) l0).trans c1
      have k7' := (hb2.cell (p := ⟨L.tb, 7, none⟩) l0).trans c7
      have k8' := (hb2.cell (p := ⟨L.tb, 8, none⟩) l0).trans c8
      have hown1 := ownsRow_below hown hb2 (Nat.le_refl _)
      have hsz := hb2.size
      obtain ⟨f1, _⟩ := nb_facts nbo
      clear hb1 c0 c1 c7 c8 hch hown
      go_wp2_with fail
      go_quiet (fail)
      have hbq : Below w0.heap.size w0 (w0.drewN nq) := Below.drewN' (Below.refl _ _) nq
      have nboq := (hbq.block _ ls).trans nbo
      have lsq := (Array.getElem?_eq_some_iff.1 nboq).1
      have k7q := (hbq.cell (p := ⟨L.tb, 7, none⟩) l1).trans k7'
      have k8q := (hbq.cell (p := ⟨L.tb, 8, none⟩) l1).trans k8'
      have hownq := ownsRow_below hown1 hbq (Nat.le_refl _)
      have hb2q := hb2.trans (hbq.mono hb2.size)
      have l1q : L.tb < (w0.drewN nq).heap.size := Nat.lt_of_lt_of_le l1 hbq.size
      have hszq := hb2q.size
      clear f1 nbo ls k0' k1' k7' k8' hown1 hb2 l1 hsz hbq
      generalize w0.drewN nq = wq at *
      obtain ⟨f1, _⟩ := nb_facts nboq
      go_wp2_with fail
      refine (hlive.out _ hb2q).mono ?_
      rintro e w2 ⟨rfl, rfl⟩
      clear hlive
      go_wp2_with (at_builtin; go_must (refine wpList_append_own _ rfl _ _ 63 rfl B 107 i0 (.pointer none) 1 8 Tryz.underlying63 hi hz0 hz1 hz2 rfl (by decide) _ _ _ rfl ((hownq.alloc _).alloc _) ⟨w2.heap.size + 1, 0, none⟩ 1 1 [.pointer (some ⟨w2.heap.size, 0, none⟩)] rfl rfl ?c1 ?c2 ?c3 ?c4 ?c5 ?_))
      case c1 => exact cells_new_at' _ [Value.pointer (some ⟨w2.heap.size, 0, none⟩)] _ _ (by simp)
      case c2 => intro u hu; simp at hu; subst hu; rfl
      case c3 => unfold maxLen; omega
      case c4 => omega
      case c5 => simp; omega
      · intro x' w3 hown' hgrow _
        have hnt := HNT.out
        have ht0 : w3.heap[L.tb]? = w2.heap[L.tb]? := by
          rw [hgrow.block L.tb (by simp; omega) hnt, Below.heap_alloc _ _ _ (by simp; omega), Below.heap_alloc _ _ _ l1q]
        have hfin := HPU.out _ w3 w2.heap.size x' ((hb2q.alloc hszq _).alloc (by simp; omega) _) (by
          rw [HNP.out, Below.heap_alloc _ _ _ (by simp)]
          exact nb_alloc _ _ _) hszq hown' hgrow
        replace hfin : Hid _ := hfin
        have d8 := (World.cell?_of_block (a := ⟨L.tb, 8, none⟩) ht0).trans k8q
        have d8f : w3.frozen? ⟨L.tb, 8, none⟩ = false := (World.frozen?_of_block (a := ⟨L.tb, 8, none⟩) ht0).trans ((World.frozen?_of_block (a := ⟨L.tb, 8, none⟩) (hb2q.block L.tb l0)).trans HFZ.out)
        obtain ⟨ao', cp', rfl, _⟩ := ownsRow_cells hown'
        clear hown' hgrow ht0 HPU HNP f1 k7q k8q hownq hnt
        go_wp2
        go_ret2
        exact ⟨rfl, ⟨_, _, hfin.out.1⟩, hfin.out.2⟩
    · have bn1 : (node == 1) = false := by simp [hn1]
      rw [hc] at hch
      have HNP : Hid (newPr ⟨kind, val, node⟩ = ⟨kind, val, node, 0, 1, 0, 0, 0, 0, 0, -1, 0, 0⟩) := by show _ = _; rw [newPr, hc]; simp [hn1]
      clear hc hn1
      go_enter Tryz.func49, Tryz.ntmps49
      go_wp2_with fail
      refine (hch.out _).mono ?_
      rintro e w0 ⟨rfl, hb1⟩
      have nbo : w0.heap[w.heap.size]? = some (.cells #[I kind, I val, I node] 77 (0, 0)) := (hb1.block _ (by simp)).trans (nb_alloc _ _ _)
      have hb2 : Below w.heap.size w w0 := ((Below.refl _ _).alloc (Nat.le_refl _) _).trans (hb1.mono (by simp))
      have l1 : L.tb < w0.heap.size := Nat.lt_of_lt_of_le l0 hb2.size
      have ls := (Array.getElem?_eq_some_iff.1 nbo).1
      have k0' := (hb2.cell (p := ⟨L.tb, 0, none⟩) l0).trans c0
      have k1' := (hb2.cell (p := ⟨L.tb, 1, none⟩) l0).trans c1
      have k7' := (hb2.cell (p := ⟨L.tb, 7, none⟩) l0).trans c7
      have k8' := (hb2.cell (p := ⟨L.tb, 8, none⟩) l0).trans c8
      have hown1 := ownsRow_below hown hb2 (Nat.le_refl _)
      have hsz := hb2.size
      obtain ⟨f1, _⟩ := nb_facts nbo
      clear hb1 c0 c1 c7 c8 hch hown
      go_wp2_with fail
      go_quiet (fail)
      have hbq : Below w0.heap.size w0 (w0.drewN nq) := Below.drewN' (Below.refl _ _) nq
      have nboq := (hbq.block _ ls).trans nbo
      have lsq := (Array.getElem?_eq_some_iff.1 nboq).1
      have k7q := (hbq.cell (p := ⟨L.tb, 7, none⟩) l1).trans k7'
      have k8q := (hbq.cell (p := ⟨L.tb, 8, none⟩) l1).trans k8'
      have hownq := ownsRow_below hown1 hbq (Nat.le_refl _)
      have hb2q := hb2.trans (hbq.mono hb2.size)
      have l1q : L.tb < (w0.drewN nq).heap.size := Nat.lt_of_lt_of_le l1 hbq.size
      have hszq := hb2q.size
      clear f1 nbo ls k0' k1' k7' k8' hown1 hb2 l1 hsz hbq
      generalize w0.drewN nq = wq at *
      obtain ⟨f1, _⟩ := nb_facts nboq
      go_wp2_with fail
      refine (hlive.out _ hb2q).mono ?_
      rintro e w2 ⟨rfl, rfl⟩
      clear hlive
      go_wp2_with (at_builtin; go_must (refine wpList_append_own _ rfl _ _ 63 rfl B 107 i0 (.pointer none) 1 8 Tryz.underlying63 hi hz0 hz1 hz2 rfl (by decide) _ _ _ rfl ((hownq.alloc _).alloc _) ⟨w2.heap.size + 1, 0, none⟩ 1 1 [.pointer (some ⟨w2.heap.size, 0, none⟩)] rfl rfl ?c1 ?c2 ?c3 ?c4 ?c5 ?_))
      case c1 => exact cells_new_at' _ [Value.pointer (some ⟨w2.heap.size, 0, none⟩)] _ _ (by simp)
      case c2 => intro u hu; simp at hu; subst hu; rfl
      case c3 => unfold maxLen; omega
      case c4 => omega
      case c5 => simp; omega
      · intro x' w3 hown' hgrow _
        have hnt := HNT.out
        have ht0 : w3.heap[L.tb]? = w2.heap[L.tb]? := by
          rw [hgrow.block L.tb (by simp; omega) hnt, Below.heap_alloc _ _ _ (by simp; omega), Below.heap_alloc _ _ _ l1q]
        have hfin := HPU.out _ w3 w2.heap.size x' ((hb2q.alloc hszq _).alloc (by simp; omega) _) (by
          rw [HNP.out, Below.heap_alloc _ _ _ (by simp)]
          exact nb_alloc _ _ _) hszq hown' hgrow
        replace hfin : Hid _ := hfin
        have d8 := (World.cell?_of_block (a := ⟨L.tb, 8, none⟩) ht0).trans k8q
        have d8f : w3.frozen? ⟨L.tb, 8, none⟩ = false := (World.frozen?_of_block (a := ⟨L.tb, 8, none⟩) ht0).trans ((World.frozen?_of_block (a := ⟨L.tb, 8, none⟩) (hb2q.block L.tb l0)).trans HFZ.out)
        obtain ⟨ao', cp', rfl, _⟩ := ownsRow_cells hown'
        clear hown' hgrow ht0 HPU HNP f1 k7q k8q hownq hnt
        go_wp2
        go_ret2
        exact ⟨rfl, ⟨_, _, hfin.out.1⟩, hfin.out.2⟩

end Go.Proofs.YtjnmpejcegmkhaaGreatDoor
