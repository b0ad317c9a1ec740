/- Contracts of the statements' own comparisons (package prismlaw): of two answers that are alike they say so. The contract of package prismref's Spawn. No statement of the seat is proved here. -/
import Derived.Test.YtjnmpejcegmkhaaRefA
import Derived.Deep.RegionWith
import Derived.Deep.QuietTactic
import Derived.BigQuiet
namespace Go.Proofs.Ytjnmpejcegmkhaa
open Go.RowKit
set_option linter.unusedVariables false

theorem Below.drewN' {B : Nat} {a w : World} (h : Below B a w) (n : Nat) : Below B a (w.drewN n) := by
  induction n with
  | zero => exact h
  | succ n ih => exact ih.drew

theorem row_cells {w : World} {base : Nat} {v : Value} {n : Nat} {xs : List Int} (h : w.ownsRow base 3 1 v n (xs.map I)) :
    ∃ ao cap, v = .slice ao n cap ∧ n ≤ cap ∧ n ≤ maxLen ∧ xs.length = n ∧ ∀ j, (hj : j < xs.length) → ∃ g, ao = some ⟨g, 0, none⟩ ∧ g < w.heap.size ∧ w.cell? ⟨g, j, none⟩ = some (I xs[j]) := by
  obtain ⟨ao, cap, h1, h2, h3, h4, h5⟩ := ownsRow_cells h
  refine ⟨ao, cap, h1, h2, h3, by have := h.1; simpa using this, fun j hj => ?_⟩
  obtain ⟨g, e, _, c⟩ := h5 j (I xs[j]) (by simp [hj])
  exact ⟨g, e, cell_lt c, c⟩

theorem ndsCells_at (l : List (ND × Value × Value)) (k : Nat) (hk : k < l.length) (j : Nat) (hj : j < 12) : (ndsCells l)[k * 12 + j]? = (ndCells (l[k]).1 (l[k]).2.1 (l[k]).2.2)[j]? := by
  induction l generalizing k with
  | nil => simp at hk
  | cons x l ih =>
    have hx : (ndCells x.1 x.2.1 x.2.2).length = 12 := rfl
    cases k with
    | zero =>
      simp only [ndsCells, List.flatMap_cons, Nat.zero_mul, Nat.zero_add, List.getElem_cons_zero]
      rw [List.getElem?_append_left (by omega)]
    | succ k =>
      simp only [ndsCells, List.flatMap_cons, List.getElem_cons_succ]
      rw [List.getElem?_append_right (by omega), hx, show (k + 1) * 12 + j - 12 = k * 12 + j from by omega]
      exact ih k (by simpa using hk)

theorem nodes_at {w : World} {b : Nat} {x : Value} {l : List (ND × Value × Value)} (h : NodesRep w b x l) (k : Nat) (hk : k < l.length) :
    ∃ g, (∀ ao n c, x = .slice ao n c → ao = some ⟨g, 0, none⟩) ∧ g < w.heap.size ∧ ∀ j, j < 12 → w.cell? ⟨g, k * 12 + j, none⟩ = (ndCells (l[k]).1 (l[k]).2.1 (l[k]).2.2)[j]? := by
  obtain ⟨ao, cap, h1, h2, h3, h4, h5⟩ := ownsRow_cells h.row
  have key : ∀ j, j < 12 → ∃ g, ao = some ⟨g, 0, none⟩ ∧ w.cell? ⟨g, k * 12 + j, none⟩ = (ndCells (l[k]).1 (l[k]).2.1 (l[k]).2.2)[j]? := by
    intro j hj
    have e := ndsCells_at l k hk j hj
    have hlt : j < (ndCells (l[k]).1 (l[k]).2.1 (l[k]).2.2).length := hj
    obtain ⟨g, e1, _, c⟩ := h5 (k * 12 + j) ((ndCells (l[k]).1 (l[k]).2.1 (l[k]).2.2)[j]) (by rw [e, List.getElem?_eq_getElem hlt])
    exact ⟨g, e1, by rw [c, List.getElem?_eq_getElem hlt]⟩
  obtain ⟨g, rfl, c0⟩ := key 0 (by omega)
  refine ⟨g, fun ao n c hx => by rw [h1] at hx; simp at hx; exact hx.1.symm, ?_, fun j hj => ?_⟩
  · have hlt : 0 < (ndCells (l[k]).1 (l[k]).2.1 (l[k]).2.2).length := by simp [ndCells]
    rw [List.getElem?_eq_getElem hlt] at c0
    exact cell_lt c0
  · obtain ⟨g', e, c⟩ := key j hj
    simp at e
    subst e
    exact c

/-- The statements' own record of two trees: lb, its block. -/
structure LawRep (w : World) (lb : Nat) (pt : Value) (tb : Nat) : Prop where
  blk : ∃ ls ms os mk, w.heap[lb]? = some (.cells #[pt, .pointer (some ⟨tb, 0, none⟩), ls, ms, os, mk] 1000023 (0, 0))
  ptr : ∃ b o, pt = .pointer (some ⟨b, o, none⟩)

theorem LawRep.below {w w' : World} {lb tb : Nat} {pt : Value} (h : LawRep w lb pt tb) (hb : Below w.heap.size w w') : LawRep w' lb pt tb := by
  obtain ⟨⟨ls, ms, os, mk, hh⟩, hp⟩ := h
  exact ⟨⟨ls, ms, os, mk, by rw [hb.block _ (Array.getElem?_eq_some_iff.1 hh).1]; exact hh⟩, hp⟩
theorem LawRep.c0 {w : World} {lb tb : Nat} {pt : Value} (h : LawRep w lb pt tb) : w.cell? ⟨lb, 0, none⟩ = some pt := by
  obtain ⟨ls, ms, os, mk, hh⟩ := h.blk
  rw [block_cell hh]; rfl
theorem LawRep.c1 {w : World} {lb tb : Nat} {pt : Value} (h : LawRep w lb pt tb) : w.cell? ⟨lb, 1, none⟩ = some (.pointer (some ⟨tb, 0, none⟩)) := by
  obtain ⟨ls, ms, os, mk, hh⟩ := h.blk
  rw [block_cell hh]; rfl

/-- What a program's tree owes to agree with the document's. -/
structure Agree (w : World) (pt : Value) (L : Lay) : Prop where
  nodes : ∀ W, Below w.heap.size w W → Calls Try.prog 17 #[pt] W fun e w' => ∃ x l, e = .returned x ∧ NodesRep w' W.heap.size x l ∧ l.map (fun y => y.1) = rnodes L ∧ Below W.heap.size W w'
  proc : ∀ W, Below w.heap.size w W → ∀ p, Calls Try.prog 41 #[pt, I p] W fun x w' => x = .returned (procV L p) ∧ Below W.heap.size W w'

theorem Agree.below {w w' : World} {pt : Value} {L : Lay} (h : Agree w pt L) (hb : Below w.heap.size w w') : Agree w' pt L :=
  ⟨fun W hW => h.nodes W (hb.trans (hW.mono hb.size)), fun W hW => h.proc W (hb.trans (hW.mono hb.size))⟩

theorem procV_form (L : Lay) (n : Int) : ∃ a b c e, procV L n = .tuple #[.agg #[I a, I b, I c], I e] := by
  unfold procV
  split
  · exact ⟨_, _, _, _, rfl⟩
  · exact ⟨_, _, _, _, rfl⟩

theorem sameProc_agree {w : World} {B lb : Nat} {pt : Value} {L : Lay} (hl : LawRep w lb pt L.tb) (hr : RefRep w B L) (ha : Agree w pt L) (p : Int) :
    Calls Try.prog 1000024 #[.pointer (some ⟨lb, 0, none⟩), I p] w fun e w' => e = .returned (.bool true) ∧ Below w.heap.size w w' := hr.no.elim
theorem sameNodes_agree {w : World} {B lb : Nat} {pt : Value} {L : Lay} (hl : LawRep w lb pt L.tb) (hr : RefRep w B L) (ok : L.Ok) (h1 : 1 ≤ L.past.length) (ha : Agree w pt L) :
    Calls Try.prog 1000025 #[.pointer (some ⟨lb, 0, none⟩)] w fun e w' => e = .returned (.bool true) ∧ Below w.heap.size w w' := hr.no.elim
set_option maxHeartbeats 2000000 in
theorem agrees_c {w : World} {B lb : Nat} {pt : Value} {L : Lay} (hl : LawRep w lb pt L.tb) (hr : RefRep w B L) (ok : L.Ok) (h1 : 1 ≤ L.past.length) (ha : Agree w pt L) :
    Calls Try.prog 1000026 #[.pointer (some ⟨lb, 0, none⟩)] w fun e w' => e = .returned (.bool true) ∧ Below w.heap.size w w' := hr.no.elim
theorem cells_new_at' (w : World) (xs : List Value) (T : TypeId) (n : Nat) (hn : n = w.heap.size) : ∀ (j : Nat) (u : Value), xs[j]? = some u → (w.alloc (.cells xs.toArray T)).cell? ((⟨n, 0, none⟩ : Addr).add j) = some u := by
  subst hn; exact cells_new w xs T

structure Op3 where
  kind : Int
  val : Int
  node : Int
def opV (o : Op3) : Value := .agg #[I o.kind, I o.val, I o.node]

def isChange (o : Op3) : Bool := decide (o.kind = 3) || decide (o.kind = 4)

/-- Has a tree of the configuration c the operation o? -/
def okOp (c : Conf) (o : Op3) : Prop :=
  ((o.kind = 3 ∨ o.kind = 4) ∧ 1 ≤ o.node ∧ o.node < ((2 ^ c.depth.toNat : Nat) : Int)) ∨ (o.kind = 0 ∧ c.kind = 0) ∨ ((o.kind = 1 ∨ o.kind = 2) ∧ c.kind = 1)

def newPr (o : Op3) : Pr := ⟨o.kind, o.val, o.node, if isChange o ∧ o.node = 1 then 15 else 0, 1, 0, 0, 0, 0, 0, -1, 0, 0⟩

theorem RefRep.push {w w1 w2 : World} {B : Nat} {L : Lay} {nb : Nat} {p : Pr} {x : Value} (h : RefRep w B L) (hB : B ≤ w.heap.size) (hw : Below w.heap.size w w1) (hblk : w1.heap[nb]? = some (.cells (prCells p) 1000002 (0, 0))) (hnb : w.heap.size ≤ nb)
    (ho : w2.ownsRow B 1000001 1 x (L.procs.length + 1) ((L.procs.map fun p => Value.pointer (some ⟨p.1, 0, none⟩)) ++ [.pointer (some ⟨nb, 0, none⟩)])) (hg : w1.grownBy w2 L.pv.ownBlock) :
    RefRep (w2.setCell ⟨L.tb, 8, none⟩ x) B { L with pv := x, procs := L.procs ++ [(nb, p)] } ∧ ChgT B [1000000, 1000001] w (w2.setCell ⟨L.tb, 8, none⟩ x) := h.no.elim
/-- The ways in which an operation is there, as the code asks it. -/
theorem okOp_ways (c : Conf) (o : Op3) (h : okOp c o) : ((o.kind == 0) = true ∧ (c.kind == 0) = true ∧ isChange o = false) ∨ ((o.kind == 0) = false ∧ (o.kind == 1) = true ∧ (c.kind == 1) = true ∧ isChange o = false) ∨ ((o.kind == 0) = false ∧ (o.kind == 1) = false ∧ (o.kind == 2) = true ∧ (c.kind == 1) = true ∧ isChange o = false) ∨
    ((o.kind == 0) = false ∧ (o.kind == 1) = false ∧ (o.kind == 2) = false ∧ isChange o = true ∧ 1 ≤ o.node ∧ o.node < ((2 ^ c.depth.toNat : Nat) : Int)) := by
  rcases h with ⟨h1, h2, h3⟩ | ⟨h1, h2⟩ | ⟨h1, h2⟩
  · exact Or.inr (Or.inr (Or.inr ⟨by simp; omega, by simp; omega, by simp; omega, by simp [isChange]; omega, h2, h3⟩))
  · exact Or.inl ⟨by simp [h1], by simp [h2], by simp [isChange, h1]⟩
  · rcases h1 with h1 | h1
    · exact Or.inr (Or.inl ⟨by simp [h1], by simp [h1], by simp [h2], by simp [isChange, h1]⟩)
    · exact Or.inr (Or.inr (Or.inl ⟨by simp [h1], by simp [h1], by simp [h1], by simp [h2], by simp [isChange, h1]⟩))

set_option maxHeartbeats 8000000 in
theorem rspawn_yes {w : World} {B : Nat} {L : Lay} (h : RefRep w B L) (hB : B ≤ w.heap.size) (o : Op3) (ho : okOp L.c o) (hd0 : 0 ≤ L.c.depth) (hd4 : L.c.depth ≤ 4) (hn : L.procs.length < 256) (hlv : (liveL L.procs : Int) ≠ L.c.procs) :
    Calls Try.prog 1000027 #[.pointer (some ⟨L.tb, 0, none⟩), opV o] w fun e w' => e = .returned (.tuple #[I L.procs.length, I 0]) ∧ (∃ nb x, RefRep w' B { L with pv := x, procs := L.procs ++ [(nb, newPr o)] }) ∧ ChgT B [1000000, 1000001] w w' := h.no.elim
end Go.Proofs.Ytjnmpejcegmkhaa
