/- A step of a script, as long as nobody steps: the statements' own step answers true, and both trees go on alike. No statement of the seat is proved here. -/
import Derived.Test.YtjnmpejcegmkhaaSp1
import Derived.Test.YtjnmpejcegmkhaaLaw2
import Derived.Deep.RegionWith
namespace Go.Proofs.Ytjnmpejcegmkhaa
open Go.RowKit

theorem RefRep.chg {w w' : World} {B : Nat} {L : Lay} {T : List TypeId} (h : RefRep w B L) (hc : ChgT B T w w') (h1 : 110 ∉ T) (h2 : 129 ∉ T) (h3 : 128 ∉ T) (h4 : 136 ∉ T) (h5 : 125 ∉ T) (h6 : 3 ∉ T) : RefRep w' B L :=
  ⟨hc.at h.tree h1, h.treeB, hc.row h.prow h2, fun i hi => ⟨hc.at (h.pblk i hi).1 h3, (h.pblk i hi).2⟩, h.pnd, hc.row h.hrow h4, fun i hi => hc.row (h.hist i hi) h5, fun i hi y hy => hc.row (h.items i hi y hy) h6, h.hnd⟩
theorem PRep.chg {w w' : World} {B : Nat} {L : PLay} {T : List TypeId} (h : PRep w B L) (hc : ChgT B T w w') (h1 : 78 ∉ T) (h2 : 119 ∉ T) (h3 : 135 ∉ T) : PRep w' B L :=
  ⟨hc.at h.tree h1, h.treeB, h.len, hc.row h.prow h2, fun v hv => hc.row (h.items v hv) h3, h.ind⟩

def lawCells (P : PLay) (L : Lay) : Array Value := #[.pointer (some ⟨P.tb, 0, none⟩), .pointer (some ⟨L.tb, 0, none⟩), .slice none 0 0, .slice none 0 0, .slice none 0 0, I (-1000)]

structure SpSt (w : World) (B : Nat) (c : Conf) (lb : Nat) (L : Lay) (P : PLay) : Prop where
  law : w.heap[lb]? = some (.cells (lawCells P L) 103 (0, 0))
  ref : RefRep w B L
  prog : PRep w B P
  rel : SpRel c L P
  hB : B ≤ w.heap.size

theorem SpSt.below {w w' : World} {B : Nat} {c : Conf} {lb : Nat} {L : Lay} {P : PLay} (h : SpSt w B c lb L P) (hb : Below w.heap.size w w') : SpSt w' B c lb L P :=
  ⟨by rw [hb.block _ (Array.getElem?_eq_some_iff.1 h.law).1]; exact h.law, h.ref.below hb, h.prog.below hb, h.rel, Nat.le_trans h.hB hb.size⟩
theorem SpSt.lawRep {w : World} {B : Nat} {c : Conf} {lb : Nat} {L : Lay} {P : PLay} (h : SpSt w B c lb L P) : LawRep w lb (.pointer (some ⟨P.tb, 0, none⟩)) L.tb := ⟨⟨_, _, _, _, h.law⟩, ⟨_, _, rfl⟩⟩

/-- Spawn of one and the same operation, in both trees: refused alike, or both have one process more. -/
theorem spawn_both {w : World} {B : Nat} {c : Conf} {lb : Nat} {L : Lay} {P : PLay} (h : SpSt w B c lb L P) (o : Op3) :
    (∃ e : Int, (∀ W, PRep W B P → Calls Try.prog 40 #[.pointer (some ⟨P.tb, 0, none⟩), opV o] W fun x w' => x = .returned (.tuple #[I 0, I e]) ∧ Below W.heap.size W w') ∧
      (∀ W, RefRep W B L → Calls Try.prog 64 #[.pointer (some ⟨L.tb, 0, none⟩), opV o] W fun x w' => x = .returned (.tuple #[I 0, I e]) ∧ Below W.heap.size W w')) ∨
    ((L.procs.length < 256 ∧ (L.procs.length : Int) < c.procs) ∧ (∀ W, PRep W B P → B ≤ W.heap.size → Calls Try.prog 40 #[.pointer (some ⟨P.tb, 0, none⟩), opV o] W fun x w' => x = .returned (.tuple #[I L.procs.length, I 0]) ∧ (∃ y, PRep w' B { P with pv := y, procs := P.procs ++ [newPP o] }) ∧ ChgT B [78, 119] W w') ∧
      (∀ W, RefRep W B L → B ≤ W.heap.size → Calls Try.prog 64 #[.pointer (some ⟨L.tb, 0, none⟩), opV o] W fun x w' => x = .returned (.tuple #[I L.procs.length, I 0]) ∧ (∃ nb y, RefRep w' B { L with pv := y, procs := L.procs ++ [(nb, newPr o)] }) ∧ ChgT B [110, 129] W w')) := by
  have hm := h.rel.may
  have hd : 0 ≤ c.depth ∧ c.depth ≤ 4 := by simp [mayC] at hm; omega
  have dL : 0 ≤ L.c.depth ∧ L.c.depth ≤ 4 := by rw [h.rel.cL]; exact hd
  have dP : 0 ≤ P.c.depth ∧ P.c.depth ≤ 4 := by rw [h.rel.cP]; exact hd
  have lvL : liveL L.procs = L.procs.length := fresh_live h.rel.fresh
  have lvP : pliveL P.procs = L.procs.length := plive_sp h.rel
  by_cases hok : okOp c o
  · have okL : okOp L.c o := by rw [h.rel.cL]; exact hok
    have okP : okOp P.c o := by rw [h.rel.cP]; exact hok
    by_cases hn : L.procs.length = 256
    · exact Or.inl ⟨3, fun W hW => pspawn_err3 hW o okP dP.1 dP.2 (by rw [h.rel.plen]; exact hn), fun W hW => rspawn_err3 hW o okL hn dL.1 dL.2⟩
    · have hn' : L.procs.length < 256 := by have := h.rel.np; omega
      have hnP : P.procs.length < 256 := by rw [h.rel.plen]; exact hn'
      by_cases hf : (L.procs.length : Int) = c.procs
      · exact Or.inl ⟨4, fun W hW => pspawn_err4 hW o okP dP.1 dP.2 hnP (by rw [lvP, h.rel.cP]; omega), fun W hW => rspawn_err4 hW o okL hn' (by rw [lvL, h.rel.cL]; exact hf) dL.1 dL.2⟩
      · have hf' : (L.procs.length : Int) < c.procs := by have := h.rel.full; omega
        refine Or.inr ⟨⟨hn', hf'⟩, fun W hW hB => ?_, fun W hW hB => rspawn_yes hW hB o okL dL.1 dL.2 hn' (by rw [lvL, h.rel.cL]; omega)⟩
        have := pspawn_yes hW hB o okP dP.1 dP.2 hnP (by rw [lvP, h.rel.cP]; omega)
        rw [h.rel.plen] at this
        exact this
  · exact Or.inl ⟨2, fun W hW => pspawn_err2 hW o (by rw [h.rel.cP]; exact hok) dP.1 dP.2, fun W hW => rspawn_err2 hW o (by rw [h.rel.cL]; exact hok) dL.1 dL.2⟩

set_option maxHeartbeats 4000000 in
theorem step_seven {w : World} {B : Nat} {c : Conf} {lb : Nat} {L : Lay} {P : PLay} (h : SpSt w B c lb L P) (a b : Int) :
    Calls Try.prog 33 #[.pointer (some ⟨lb, 0, none⟩), .agg #[I 7, I a, I b]] w fun e w' => e = .returned (.bool true) ∧ Below w.heap.size w w' := by
  have hc := fun W (hb : Below w.heap.size w W) => sameProc_agree (h.below hb).lawRep (h.below hb).ref (sp_agree h.rel (h.below hb).prog) a
  replace hc : Hid _ := hc
  clear h
  go_enter Try.func33, Try.ntmps33
  go_wp2_with fail
  refine (hc.out _ ((Below.refl _ _).alloc (Nat.le_refl _) _)).mono ?_
  rintro e w1 ⟨rfl, hb1⟩
  go_wp2
  go_ret
  exact ⟨rfl, ((Below.refl _ _).alloc (Nat.le_refl _) _).trans (hb1.mono (by simp))⟩

set_option maxHeartbeats 4000000 in
theorem step_eleven {w : World} {B : Nat} {c : Conf} {lb : Nat} {L : Lay} {P : PLay} (h : SpSt w B c lb L P) (a b : Int) :
    Calls Try.prog 33 #[.pointer (some ⟨lb, 0, none⟩), .agg #[I 11, I a, I b]] w fun e w' => e = .returned (.bool true) ∧ Below w.heap.size w w' := by
  have hlen : 1 ≤ L.past.length := by rw [h.rel.len]; exact Nat.two_pow_pos _
  have hc := fun W (hb : Below w.heap.size w W) => agrees_c (h.below hb).lawRep (h.below hb).ref (sp_ok h.rel) hlen (sp_agree h.rel (h.below hb).prog)
  replace hc : Hid _ := hc
  clear h
  go_enter Try.func33, Try.ntmps33
  go_wp2_with fail
  refine (hc.out _ ((Below.refl _ _).alloc (Nat.le_refl _) _)).mono ?_
  rintro e w1 ⟨rfl, hb1⟩
  go_wp2
  go_ret
  exact ⟨rfl, ((Below.refl _ _).alloc (Nat.le_refl _) _).trans (hb1.mono (by simp))⟩

end Go.Proofs.Ytjnmpejcegmkhaa
