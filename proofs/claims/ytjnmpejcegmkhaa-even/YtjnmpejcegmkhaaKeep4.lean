/- What a hand is behind a Spawn; the contract of package prismkeep's spawn. No statement of the seat is proved here. -/
import Derived.Test.YtjnmpejcegmkhaaKeep3
import Derived.Test.YtjnmpejcegmkhaaSpA
import Derived.Deep.RegionLaw
import Derived.Deep.AppendLies
namespace Go.Proofs.Ytjnmpejcegmkhaa
open Go.RowKit

theorem grown_chg {w w2 : World} {B : Nat} {e : TypeId} {s : Nat} {v : Value} {n : Nat} {xs : List Value} (h : w.ownsRow B e s v n xs) (hg : w.grownBy w2 v.ownBlock) : ChgT B [e] w w2 := by
  refine ⟨hg.os, hg.tape, hg.output, hg.size, fun k hk hc => hg.block k hk fun he => ?_⟩
  rcases hc with hc | hc
  · have := (h.lt k he.symm).1; omega
  · obtain ⟨c', hc'⟩ := ownsRow_block h he.symm
    exact absurd (hc _ _ _ hc') (by simp)

/-- The hand's memory, whatever the lengths. -/
structure KMem (w : World) (B hb : Nat) (P : PLay) (ov wv : Value) (ops : List Op3) (went : List Bool) : Prop where
  blk : w.heap[hb]? = some (.cells (handCells P ov wv).toArray 38 (0, 0))
  rop : w.ownsRow B 33 3 ov ops.length (ops.flatMap opCells)
  rwe : w.ownsRow B 4 1 wv went.length (went.map Value.bool)
  hB : B ≤ hb
  prog : PRep w B P

theorem KRep.mem {w : World} {B hb : Nat} {P : PLay} {ops : List Op3} {went : List Bool} (h : KRep w B hb P ops went) : ∃ ov wv, KMem w B hb P ov wv ops went := by
  obtain ⟨ov, wv, a, b, d⟩ := h.blk
  exact ⟨ov, wv, a, b, d, h.hB, h.prog⟩
theorem KMem.below {w w' : World} {B hb : Nat} {P : PLay} {ov wv : Value} {ops : List Op3} {went : List Bool} (h : KMem w B hb P ov wv ops went) (hw : Below w.heap.size w w') : KMem w' B hb P ov wv ops went :=
  ⟨by rw [hw.block _ (Array.getElem?_eq_some_iff.1 h.blk).1]; exact h.blk, ownsRow_below h.rop hw (Nat.le_refl _), ownsRow_below h.rwe hw (Nat.le_refl _), h.hB, h.prog.below hw⟩

/-- The tree has one process more. -/
theorem KMem.spawned {w w' : World} {B hb : Nat} {P : PLay} {ov wv : Value} {ops : List Op3} {went : List Bool} (h : KMem w B hb P ov wv ops went) (hc : ChgT B [78, 119] w w') {y : Value} {ps : List PP} (hp : PRep w' B { P with pv := y, procs := ps }) : KMem w' B hb { P with pv := y, procs := ps } ov wv ops went :=
  ⟨hc.at h.blk (by decide), hc.row h.rop (by decide), hc.row h.rwe (by decide), h.hB, hp⟩

/-- An operation is appended to the hand's. -/
theorem KMem.pushOp {w w1 w2 : World} {B hb : Nat} {P : PLay} {ov wv x : Value} {ops : List Op3} {went : List Bool} (h : KMem w B hb P ov wv ops went) (hw : Below w.heap.size w w1) (o : Op3) (ho : w2.ownsRow B 33 3 x (ops.length + 1) (ops.flatMap opCells ++ opCells o)) (hg : w1.grownBy w2 ov.ownBlock) :
    KMem (w2.setCell ⟨hb, 9, none⟩ x) B hb P x wv (ops ++ [o]) went ∧ ChgT B [33, 38] w (w2.setCell ⟨hb, 9, none⟩ x) := by
  have h1 := h.below hw
  have hc := grown_chg h1.rop hg
  have hb2 := hc.at h1.blk (by decide)
  have hcc : ChgT B [33, 38] w1 (w2.setCell ⟨hb, 9, none⟩ x) := (hc.mono (Nat.le_refl _) (by simp)).trans (by
    refine ⟨rfl, rfl, rfl, by simp [World.setCell], fun k _ hk => Below.heap_setCell _ _ _ _ ?_⟩
    intro e
    have e' : k = hb := e
    rcases hk with hk | hk
    · have := h.hB
      omega
    · exact absurd (hk _ _ _ (by rw [e']; exact hb2)) (by simp))
  refine ⟨⟨?_, ?_, hcc.row h1.rwe (by decide), h.hB, h1.prog.chg hcc (by decide) (by decide) (by decide)⟩, (ChgT.of_below hw).trans hcc⟩
  · rw [nb_set hb2]
    rfl
  · have := ownsRow_setCell_type ho hb2 (by decide) 9 x
    have e : (ops ++ [o]).flatMap opCells = ops.flatMap opCells ++ opCells o := by rw [List.flatMap_append]; simp
    rw [e, List.length_append]
    exact this

theorem KMem.pushWent {w w1 w2 : World} {B hb : Nat} {P : PLay} {ov wv x : Value} {ops : List Op3} {went : List Bool} (h : KMem w B hb P ov wv ops went) (hw : Below w.heap.size w w1) (b : Bool) (ho : w2.ownsRow B 4 1 x (went.length + 1) (went.map Value.bool ++ [.bool b])) (hg : w1.grownBy w2 wv.ownBlock) :
    KMem (w2.setCell ⟨hb, 10, none⟩ x) B hb P ov x ops (went ++ [b]) ∧ ChgT B [4, 38] w (w2.setCell ⟨hb, 10, none⟩ x) := by
  have h1 := h.below hw
  have hc := grown_chg h1.rwe hg
  have hb2 := hc.at h1.blk (by decide)
  have hcc : ChgT B [4, 38] w1 (w2.setCell ⟨hb, 10, none⟩ x) := (hc.mono (Nat.le_refl _) (by simp)).trans (by
    refine ⟨rfl, rfl, rfl, by simp [World.setCell], fun k _ hk => Below.heap_setCell _ _ _ _ ?_⟩
    intro e
    have e' : k = hb := e
    rcases hk with hk | hk
    · have := h.hB
      omega
    · exact absurd (hk _ _ _ (by rw [e']; exact hb2)) (by simp))
  refine ⟨⟨?_, hcc.row h1.rop (by decide), ?_, h.hB, h1.prog.chg hcc (by decide) (by decide) (by decide)⟩, (ChgT.of_below hw).trans hcc⟩
  · rw [nb_set hb2]
    rfl
  · have := ownsRow_setCell_type ho hb2 (by decide) 10 x
    rw [List.map_append, List.length_append]
    exact this

end Go.Proofs.Ytjnmpejcegmkhaa
