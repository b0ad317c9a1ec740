/- The contract of package prismkeep's step, where a process that is live steps. No statement of the seat is proved here. -/
import Derived.Test.YtjnmpejcegmkhaaKeep6
import Derived.Test.YtjnmpejcegmkhaaKeep7
namespace Go.Proofs.Ytjnmpejcegmkhaa
open Go.RowKit

/-- The tree has taken a step. -/
theorem KMem.stepped {w w' : World} {B hb : Nat} {P P' : PLay} {ov wv : Value} {ops : List Op3} {went : List Bool} (h : KMem w B hb P ov wv ops went) (hc : ChgT B [78, 119, 135] w w') (hp : PRep w' B P') (htb : P'.tb = P.tb) (hcc : P'.c = P.c) : KMem w' B hb P' ov wv ops went :=
  ⟨by have := hc.at h.blk (by decide); unfold handCells at this ⊢; rw [htb, hcc]; exact this, hc.row h.rop (by decide), hc.row h.rwe (by decide), h.hB, hp⟩

/-- One of those that went is written. -/
theorem KMem.wentSet {w : World} {B hb : Nat} {P : PLay} {ov : Value} {g cap : Nat} {ops : List Op3} {went : List Bool} (h : KMem w B hb P ov (.slice (some ⟨g, 0, none⟩) went.length cap) ops went) (i : Nat) (b : Bool) :
    KMem (w.setCell ⟨g, i, none⟩ (.bool b)) B hb P ov (.slice (some ⟨g, 0, none⟩) went.length cap) ops (went.set i b) ∧ ChgT B [4] w (w.setCell ⟨g, i, none⟩ (.bool b)) := by
  obtain ⟨cur, hbk⟩ := ownsRow_block h.rwe (g := g) rfl
  have hBg := (h.rwe.lt g rfl).1
  have hc : ChgT B [4] w (w.setCell ⟨g, i, none⟩ (.bool b)) := by
    refine ⟨rfl, rfl, rfl, by simp [World.setCell], fun k _ hk => Below.heap_setCell _ _ _ _ ?_⟩
    intro e
    have e' : k = g := e
    rcases hk with hk | hk
    · omega
    · exact absurd (hk _ _ _ (by rw [e']; exact hbk)) (by simp)
  refine ⟨⟨hc.at h.blk (by decide), hc.row h.rop (by decide), ?_, h.hB, h.prog.chg hc (by decide) (by decide) (by decide)⟩, hc⟩
  have := (h.rwe.stored i (.bool b)).1
  rw [← List.map_set] at this
  rw [List.length_set]
  exact this

theorem behindL_len (a : Int) : (behindL a).length ≤ 100 := by
  have key : ∀ (c : Prop) [Decidable c] (x y : List Int), x.length ≤ 100 → y.length ≤ 100 → (if c then x else y).length ≤ 100 := by
    intro c _ x y h1 h2
    split <;> assumption
  unfold behindL
  repeat (refine key _ _ _ (by decide) ?_)
  decide

set_option maxHeartbeats 8000000 in
set_option maxRecDepth 100000 in
theorem kstep_live {w : World} {B hb : Nat} {P : PLay} {ops : List Op3} {went : List Bool} (h : KRep w B hb P ops went) (hB : B ≤ w.heap.size) (i : Nat) (hi : i < P.procs.length) (draw ph : Int) (a : Int) (ha : (toldP P i).1 = a) (ha0 : 0 ≤ a) (ha9 : a ≤ 19) (hin : amongTo ph (behindL a) = true) (FP : Value → PLay) (hFt : ∀ y, (FP y).tb = P.tb) (hFc : ∀ y, (FP y).c = P.c) (hFl : ∀ y, (FP y).procs.length = P.procs.length) (hFp : ∀ y, (toldP (FP y) i).1 = ph)
    (hs : ∀ W, PRep W B P → B ≤ W.heap.size → Calls Try.prog 57 #[.pointer (some ⟨P.tb, 0, none⟩), I i, I draw] W fun x w' => x = .returned (.tuple #[I ph, I 0]) ∧ (∃ y, PRep w' B (FP y)) ∧ ChgT B [78, 119, 135] W w') :
    Calls Try.prog 43 #[.pointer (some ⟨hb, 0, none⟩), I i, I draw] w fun e w' => e = .returned (.bool true) ∧ (∃ y, KRep w' B hb (FP y) ops (went.set i true)) ∧ ChgT B [78, 119, 135, 4] w w' := by
  have hat := fun W (hw : Below w.heap.size w W) => kat_c (h.below hw) (i : Int)
  rw [ha] at hat
  have hsp := fun W (hw : Below w.heap.size w W) => hs W (h.prog.below hw) (Nat.le_trans hB hw.size)
  obtain ⟨ov, wv, hm⟩ := h.mem
  obtain ⟨_, _, _, ao, cap, c9, q1, q2, q3⟩ := h.conf
  have hlen := h.len
  have hwlen := h.wlen
  rw [hlen] at c9 q1 q2
  unfold maxLen at q2 q3
  have HT : Hid (∀ W, Below w.heap.size w W → W.cell? ⟨hb, 0, none⟩ = some (.pointer (some ⟨P.tb, 0, none⟩))) := fun W hw => (h.below hw).t
  have l0 := cell_lt c9
  have hi0 : decide ((i : Int) < 0) = false := by simp
  have hil : (i : Int) < (P.procs.length : Int) := by omega
  have b20 : (a == 20) = false := by simp; omega
  generalize (toldP P i).2.1 = a1 at *
  generalize (toldP P i).2.2 = a2 at *
  replace hat : Hid _ := hat
  replace hsp : Hid _ := hsp
  clear h hs ha
  go_enter Try.func43, Try.ntmps43
  go_wp2_with fail
  refine Calls.mono (hat.out _ (Below.refl _ _)) ?_
  rintro e w1 ⟨rfl, hb1⟩
  have c0 := HT.out w1 hb1
  have l1 := cell_lt c0
  clear hat c9
  have hba := hb1.alloc hb1.size (.cells #[I a, I a1, I a2] 84)
  have hna : (w1.alloc (.cells #[I a, I a1, I a2] 84)).heap[w1.heap.size]? = some (.cells #[I a, I a1, I a2] 84 (0, 0)) := nb_alloc _ _ _
  go_wp2_with fail
  refine Calls.mono (hsp.out _ hba) ?_
  rintro e w2 ⟨rfl, ⟨y, hpr⟩, hc2⟩
  have hm2 := (hm.below hba).stepped hc2 hpr (hFt y) (hFc y)
  have nx2 := hc2.at hna (by decide)
  have hK2 : KRep w2 B hb (FP y) ops went := ⟨⟨_, _, hm2.blk, hm2.rop, hm2.rwe⟩, hm2.hB, hm2.prog, by rw [hFl y]; exact hlen, hwlen⟩
  have hat2 := fun W (hw : Below w2.heap.size w2 W) => kat_c (hK2.below hw) (i : Int)
  rw [hFp y] at hat2
  generalize (toldP (FP y) i).2.1 = b1 at *
  generalize (toldP (FP y) i).2.2 = b2 at *
  have hcw : ChgT B [78, 119, 135] w w2 := (ChgT.of_below hba).trans hc2
  obtain ⟨y1, _⟩ := nb_facts nx2
  have l2 := (Array.getElem?_eq_some_iff.1 nx2).1
  have lh2 := (Array.getElem?_eq_some_iff.1 hm2.blk).1
  obtain ⟨ao2, cap2, e1, r1, r2, r3, hrc⟩ := ownsRow_cells hm2.rwe
  obtain ⟨gw, rfl, _, hgc⟩ := hrc i (.bool (went.getD i false)) (by simp [List.getD_eq_getElem?_getD, List.getElem?_eq_getElem (by omega : i < went.length)])
  rw [hwlen, hlen] at e1 r1 r2
  unfold maxLen at r2 r3
  replace hat2 : Hid _ := hat2
  have HM2 : Hid _ := hm2
  have HCW : Hid _ := hcw
  clear hsp hm HT c0 hba hna hc2 hpr hK2 hm2 hcw hrc hb1 q1 q2 q3
  go_wp2_with fail
  refine Calls.mono (hat2.out _ (Below.refl _ _)) ?_
  rintro e w3 ⟨rfl, hb3⟩
  have hm3 := HM2.out.below hb3
  have nx3 := (hb3.block _ l2).trans nx2
  obtain ⟨z1, _⟩ := nb_facts nx3
  have l3 := (Array.getElem?_eq_some_iff.1 nx3).1
  have d10 : w3.cell? ⟨hb, 10, none⟩ = some (.slice (some ⟨gw, 0, none⟩) P.procs.length cap2) := by rw [(nb_facts hm3.blk).1 10, ← e1]; rfl
  have lh3 := cell_lt d10
  have hm3' := hm3
  rw [e1] at hm3'
  have dgw : w3.cell? ⟨gw, i, none⟩ = some (.bool (went.getD i false)) := by
    have := (hb3.cell (p := ⟨gw, i, none⟩) (cell_lt hgc)).trans hgc
    exact this
  have lgw := cell_lt dgw
  have hfz : w3.frozen? ⟨gw, i, none⟩ = false := by
    obtain ⟨cur, hbk⟩ := ownsRow_block hm3'.rwe (g := gw) rfl
    exact (nb_facts hbk).2 i
  have hgx : gw ≠ w1.heap.size := by
    intro e
    obtain ⟨cur, hbk⟩ := ownsRow_block hm3'.rwe (g := gw) rfl
    rw [e, nx3] at hbk
    simp at hbk
  have hmw := fun W (hw : Below w3.heap.size w3 W) => (show KMem W B hb (FP y) ov (.slice (some ⟨gw, 0, none⟩) went.length cap2) ops went from by rw [hwlen, hlen]; exact hm3'.below hw).wentSet i true
  replace hmw : Hid _ := hmw
  have HB3 : Hid _ := hb3
  have hbe := fun W => behind_c a ha0 ha9 W
  replace hbe : Hid _ := hbe
  have HAM : Hid (∀ W b, W.heap[b]? = some (.cells ((behindL a).map I).toArray 3 (0, 0)) → Calls Try.prog 75 #[I ph, .slice (some ⟨b, 0, none⟩) (behindL a).length (behindL a).length] W fun e w' => e = .returned (.bool true) ∧ w' = W) := by
    intro W b hb'
    have := among_c ph (behindL a) b W hb' (behindL_len a)
    rw [hin] at this
    exact this
  clear HM2 hm3 hm3' e1 y1 nx2 hat2 hb3 hgc hin
  have nb0 : ((w3.setCell ⟨gw, i, none⟩ (.bool true)).alloc (.cells #[I ph, I b1, I b2] 84)).heap[w3.heap.size]? = some (.cells #[I ph, I b1, I b2] 84 (0, 0)) := by
    have := nb_alloc (w3.setCell ⟨gw, i, none⟩ (.bool true)) #[I ph, I b1, I b2] 84
    have es : (w3.setCell ⟨gw, i, none⟩ (.bool true)).heap.size = w3.heap.size := by simp [World.setCell]
    rw [es] at this
    exact this
  have esz : ((w3.setCell ⟨gw, i, none⟩ (.bool true)).alloc (.cells #[I ph, I b1, I b2] 84)).heap.size = w3.heap.size + 1 := by simp [World.setCell]
  have HFIN : Hid (∀ W, Below ((w3.setCell ⟨gw, i, none⟩ (.bool true)).alloc (.cells #[I ph, I b1, I b2] 84)).heap.size ((w3.setCell ⟨gw, i, none⟩ (.bool true)).alloc (.cells #[I ph, I b1, I b2] 84)) W → (∃ y, KRep W B hb (FP y) ops (went.set i true)) ∧ ChgT B [78, 119, 135, 4] w W) := by
    intro W hw
    obtain ⟨m1, m2⟩ := hmw.out w3 (Below.refl _ _)
    have hbl : Below (w3.setCell ⟨gw, i, none⟩ (.bool true)).heap.size (w3.setCell ⟨gw, i, none⟩ (.bool true)) W := ((Below.refl _ _).alloc (Nat.le_refl _) _).trans (hw.mono (by simp))
    have mW := m1.below hbl
    refine ⟨⟨y, ⟨_, _, mW.blk, mW.rop, mW.rwe⟩, mW.hB, mW.prog, by rw [hFl y]; exact hlen, by simp [hwlen]⟩, ?_⟩
    exact (((HCW.out.mono (Nat.le_refl _) (by simp)).trans (ChgT.of_below HB3.out)).trans (m2.mono (Nat.le_refl _) (by simp))).trans (ChgT.of_below hbl)
  clear hmw
  go_wp2_with fail
  refine Calls.mono (hbe.out _) ?_
  rintro e w4 ⟨rfl, hb4, hbb⟩
  rw [esz] at hb4 hbb ⊢
  have nx4 := (hbb.block _ (Nat.lt_succ_self _)).trans nb0
  obtain ⟨v1, _⟩ := nb_facts nx4
  have l4 := (Array.getElem?_eq_some_iff.1 nx4).1
  rw [← esz] at hbb
  have HBB : Hid _ := hbb
  clear hbe hbb nb0 dgw hfz z1 nx3 d10
  go_wp2_with fail
  refine Calls.mono (HAM.out _ _ hb4) ?_
  rintro e w5 ⟨rfl, rfl⟩
  clear HAM
  go_wp2
  go_ret
  exact ⟨rfl, HFIN.out _ HBB.out⟩

end Go.Proofs.Ytjnmpejcegmkhaa
