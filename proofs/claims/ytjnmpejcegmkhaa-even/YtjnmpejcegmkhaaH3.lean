/- The contract of package prismkeep's step, whoever steps. No statement of the seat is proved here. -/
import Derived.Test.YtjnmpejcegmkhaaKeep8
import Derived.Test.YtjnmpejcegmkhaaDBoth
namespace Go.Proofs.Ytjnmpejcegmkhaa
open Go.RowKit

set_option maxHeartbeats 4000000 in
/-- Step is step, and the phase that comes of it. -/
theorem pStep_ret {B : Nat} {P : PLay} {i : Nat} (hi : i < P.procs.length) (hl : (P.procs[i]).phase ≠ 20) (draw : Int) {F : PLay → Prop} (hF : ∀ P', F P' → P'.tb = P.tb ∧ P'.procs.length = P.procs.length)
    (hs : ∀ W, PRep W B P → B ≤ W.heap.size → Calls Try.prog 81 #[.pointer (some ⟨P.tb, 0, none⟩), I i, I draw] W fun e w' => e = .returned (.tuple #[]) ∧ (∃ P', F P' ∧ PRep w' B P') ∧ ChgT B [78, 119, 135] W w')
    {W : World} (h : PRep W B P) (hB : B ≤ W.heap.size) :
    Calls Try.prog 57 #[.pointer (some ⟨P.tb, 0, none⟩), I i, I draw] W fun e w' => (∃ P', e = .returned (.tuple #[I (P'.procs.getD i zeroPP).phase, I 0]) ∧ F P' ∧ PRep w' B P') ∧ ChgT B [78, 119, 135] W w' := by
  have HF : Hid (∀ w' P', F P' → PRep w' B P' → ∃ g cap, w'.cell? ⟨g, i * 11 + 3, none⟩ = some (I (P'.procs.getD i zeroPP).phase) ∧ w'.cell? ⟨P.tb, 680, none⟩ = some (.slice (some ⟨g, 0, none⟩) P.procs.length cap) ∧ P.procs.length ≤ cap ∧ P.procs.length ≤ 2 ^ 63 - 1 ∧ cap ≤ 2 ^ 63 - 1) := by
    intro w' P' hf hp
    obtain ⟨e1, e2⟩ := hF P' hf
    obtain ⟨ao, cap, k1, k2, k3, k4, k5⟩ := hp.pp_at
    have hi' : i < P'.procs.length := by omega
    obtain ⟨g, rfl, hg⟩ := k5 i hi'
    have hp1 := hp.pcell
    rw [e1, k1, e2] at hp1
    rw [e2] at k2 k3
    have hd : P'.procs.getD i zeroPP = P'.procs[i] := by simp [List.getD_eq_getElem?_getD, List.getElem?_eq_getElem hi']
    refine ⟨g, cap, ?_, hp1, k2, k3, k4⟩
    rw [hg 3 (by omega), hd]
    rfl
  obtain ⟨ao, cap, k1, k2, k3, k4, k5⟩ := h.pp_at
  obtain ⟨g, rfl, hg⟩ := k5 i hi
  have p1 := h.pcell
  rw [k1] at p1
  have c3 : W.cell? ⟨g, i * 11 + 3, none⟩ = some (I (P.procs[i]).phase) := by rw [hg 3 (by omega)]; rfl
  have b1 : ((P.procs[i]).phase == 20) = false := by simp [hl]
  have hi0 : decide ((i : Int) < 0) = false := by simp
  have hil : (i : Int) < (P.procs.length : Int) := by omega
  unfold maxLen at k3 k4
  have hc := hs W h hB
  replace hc : Hid _ := hc
  generalize (P.procs[i]).phase = ph0 at *
  clear h hs hF k5 hg k1 hl
  generalize P.procs.length = np at *
  go_enter Try.func57, Try.ntmps57
  go_wp2_with fail
  refine Calls.mono hc.out ?_
  rintro e w1 ⟨rfl, ⟨P', hf, hp⟩, hch⟩
  obtain ⟨g', cap', e3, e680, e1, e2, e4⟩ := HF.out _ _ hf hp
  clear hc HF c3 p1
  replace hf : Hid _ := hf
  replace hp : Hid _ := hp
  replace hch : Hid _ := hch
  go_wp2
  go_ret2
  exact ⟨⟨P', rfl, hf.out, hp.out⟩, hch.out⟩

set_option maxHeartbeats 8000000 in
set_option maxRecDepth 100000 in
theorem kstep_run {w : World} {B hb : Nat} {P : PLay} {ops : List Op3} {went : List Bool} (h : KRep w B hb P ops went) (hB : B ≤ w.heap.size) (i : Nat) (hi : i < P.procs.length) (draw ph : Int) (a : Int) (ha : (toldP P i).1 = a) (ha0 : 0 ≤ a) (ha9 : a ≤ 19) (hin : amongTo ph (behindL a) = true) (F : PLay → Prop) (hF : ∀ P', F P' → P'.tb = P.tb ∧ P'.c = P.c ∧ P'.procs.length = P.procs.length ∧ (toldP P' i).1 = ph)
    (hs : ∀ W, PRep W B P → B ≤ W.heap.size → Calls Try.prog 57 #[.pointer (some ⟨P.tb, 0, none⟩), I i, I draw] W fun x w' => x = .returned (.tuple #[I ph, I 0]) ∧ (∃ P', F P' ∧ PRep w' B P') ∧ ChgT B [78, 119, 135] W w') :
    Calls Try.prog 43 #[.pointer (some ⟨hb, 0, none⟩), I i, I draw] w fun e w' => e = .returned (.bool true) ∧ (∃ P', F P' ∧ KRep w' B hb P' ops (went.set i true)) ∧ ChgT B [78, 119, 135, 4] w w' := by
  have hat := fun W (hw : Below w.heap.size w W) => kat_c (h.below hw) (i : Int)
  rw [ha] at hat
  have hsp := fun W (hw : Below w.heap.size w W) => hs W (h.prog.below hw) (Nat.le_trans hB hw.size)
  obtain ⟨ov, wv, hm⟩ := h.mem
  obtain ⟨_, _, _, ao, cap, c9, q1, q2, q3⟩ := h.conf
  have hlen := h.len
  have hwlen := h.wlen
  rw [hlen] at c9 q1 q2
  unfold maxLen at q2 q3
  have HT : Hid (∀ W, Below w.heap.size w W → W.cell? ⟨hb, 0, none⟩ = some (.pointer (some ⟨P.tb, 0, none⟩))) := fun W hw => (h.below hw).t
  have l0 := cell_lt c9
  have hi0 : decide ((i : Int) < 0) = false := by simp
  have hil : (i : Int) < (P.procs.length : Int) := by omega
  have b20 : (a == 20) = false := by simp; omega
  generalize (toldP P i).2.1 = a1 at *
  generalize (toldP P i).2.2 = a2 at *
  replace hat : Hid _ := hat
  replace hsp : Hid _ := hsp
  replace hF : Hid _ := hF
  clear h hs ha
  go_enter Try.func43, Try.ntmps43
  go_wp2_with fail
  refine Calls.mono (hat.out _ (Below.refl _ _)) ?_
  rintro e w1 ⟨rfl, hb1⟩
  have c0 := HT.out w1 hb1
  have l1 := cell_lt c0
  clear hat c9
  have hba := hb1.alloc hb1.size (.cells #[I a, I a1, I a2] 84)
  have hna : (w1.alloc (.cells #[I a, I a1, I a2] 84)).heap[w1.heap.size]? = some (.cells #[I a, I a1, I a2] 84 (0, 0)) := nb_alloc _ _ _
  go_wp2_with fail
  refine Calls.mono (hsp.out _ hba) ?_
  rintro e w2 ⟨rfl, ⟨P2, hF2, hpr⟩, hc2⟩
  obtain ⟨hFt, hFc, hFl, hFp⟩ := hF.out P2 hF2
  replace hF2 : Hid _ := hF2
  clear hF
  have hm2 := (hm.below hba).stepped hc2 hpr hFt hFc
  have nx2 := hc2.at hna (by decide)
  have hK2 : KRep w2 B hb P2 ops went := ⟨⟨_, _, hm2.blk, hm2.rop, hm2.rwe⟩, hm2.hB, hm2.prog, by rw [hFl]; exact hlen, hwlen⟩
  have hat2 := fun W (hw : Below w2.heap.size w2 W) => kat_c (hK2.below hw) (i : Int)
  rw [hFp] at hat2
  generalize (toldP P2 i).2.1 = b1 at *
  generalize (toldP P2 i).2.2 = b2 at *
  have hcw : ChgT B [78, 119, 135] w w2 := (ChgT.of_below hba).trans hc2
  obtain ⟨y1, _⟩ := nb_facts nx2
  have l2 := (Array.getElem?_eq_some_iff.1 nx2).1
  have lh2 := (Array.getElem?_eq_some_iff.1 hm2.blk).1
  obtain ⟨ao2, cap2, e1, r1, r2, r3, hrc⟩ := ownsRow_cells hm2.rwe
  obtain ⟨gw, rfl, _, hgc⟩ := hrc i (.bool (went.getD i false)) (by simp [List.getD_eq_getElem?_getD, List.getElem?_eq_getElem (by omega : i < went.length)])
  rw [hwlen, hlen] at e1 r1 r2
  unfold maxLen at r2 r3
  replace hat2 : Hid _ := hat2
  have HM2 : Hid _ := hm2
  have HCW : Hid _ := hcw
  clear hsp hm HT c0 hba hna hc2 hpr hK2 hm2 hcw hrc hb1 q1 q2 q3
  go_wp2_with fail
  refine Calls.mono (hat2.out _ (Below.refl _ _)) ?_
  rintro e w3 ⟨rfl, hb3⟩
  have hm3 := HM2.out.below hb3
  have nx3 := (hb3.block _ l2).trans nx2
  obtain ⟨z1, _⟩ := nb_facts nx3
  have l3 := (Array.getElem?_eq_some_iff.1 nx3).1
  have d10 : w3.cell? ⟨hb, 10, none⟩ = some (.slice (some ⟨gw, 0, none⟩) P.procs.length cap2) := by rw [(nb_facts hm3.blk).1 10, ← e1]; rfl
  have lh3 := cell_lt d10
  have hm3' := hm3
  rw [e1] at hm3'
  have dgw : w3.cell? ⟨gw, i, none⟩ = some (.bool (went.getD i false)) := by
    have := (hb3.cell (p := ⟨gw, i, none⟩) (cell_lt hgc)).trans hgc
    exact this
  have lgw := cell_lt dgw
  have hfz : w3.frozen? ⟨gw, i, none⟩ = false := by
    obtain ⟨cur, hbk⟩ := ownsRow_block hm3'.rwe (g := gw) rfl
    exact (nb_facts hbk).2 i
  have hgx : gw ≠ w1.heap.size := by
    intro e
    obtain ⟨cur, hbk⟩ := ownsRow_block hm3'.rwe (g := gw) rfl
    rw [e, nx3] at hbk
    simp at hbk
  have hmw := fun W (hw : Below w3.heap.size w3 W) => (show KMem W B hb P2 ov (.slice (some ⟨gw, 0, none⟩) went.length cap2) ops went from by rw [hwlen, hlen]; exact hm3'.below hw).wentSet i true
  replace hmw : Hid _ := hmw
  have HB3 : Hid _ := hb3
  have hbe := fun W => behind_c a ha0 ha9 W
  replace hbe : Hid _ := hbe
  have HAM : Hid (∀ W b, W.heap[b]? = some (.cells ((behindL a).map I).toArray 3 (0, 0)) → Calls Try.prog 75 #[I ph, .slice (some ⟨b, 0, none⟩) (behindL a).length (behindL a).length] W fun e w' => e = .returned (.bool true) ∧ w' = W) := by
    intro W b hb'
    have := among_c ph (behindL a) b W hb' (behindL_len a)
    rw [hin] at this
    exact this
  clear HM2 hm3 hm3' e1 y1 nx2 hat2 hb3 hgc hin
  have nb0 : ((w3.setCell ⟨gw, i, none⟩ (.bool true)).alloc (.cells #[I ph, I b1, I b2] 84)).heap[w3.heap.size]? = some (.cells #[I ph, I b1, I b2] 84 (0, 0)) := by
    have := nb_alloc (w3.setCell ⟨gw, i, none⟩ (.bool true)) #[I ph, I b1, I b2] 84
    have es : (w3.setCell ⟨gw, i, none⟩ (.bool true)).heap.size = w3.heap.size := by simp [World.setCell]
    rw [es] at this
    exact this
  have esz : ((w3.setCell ⟨gw, i, none⟩ (.bool true)).alloc (.cells #[I ph, I b1, I b2] 84)).heap.size = w3.heap.size + 1 := by simp [World.setCell]
  have HFIN : Hid (∀ W, Below ((w3.setCell ⟨gw, i, none⟩ (.bool true)).alloc (.cells #[I ph, I b1, I b2] 84)).heap.size ((w3.setCell ⟨gw, i, none⟩ (.bool true)).alloc (.cells #[I ph, I b1, I b2] 84)) W → (∃ P', F P' ∧ KRep W B hb P' ops (went.set i true)) ∧ ChgT B [78, 119, 135, 4] w W) := by
    intro W hw
    obtain ⟨m1, m2⟩ := hmw.out w3 (Below.refl _ _)
    have hbl : Below (w3.setCell ⟨gw, i, none⟩ (.bool true)).heap.size (w3.setCell ⟨gw, i, none⟩ (.bool true)) W := ((Below.refl _ _).alloc (Nat.le_refl _) _).trans (hw.mono (by simp))
    have mW := m1.below hbl
    refine ⟨⟨P2, hF2.out, ⟨_, _, mW.blk, mW.rop, mW.rwe⟩, mW.hB, mW.prog, by rw [hFl]; exact hlen, by simp [hwlen]⟩, ?_⟩
    exact (((HCW.out.mono (Nat.le_refl _) (by simp)).trans (ChgT.of_below HB3.out)).trans (m2.mono (Nat.le_refl _) (by simp))).trans (ChgT.of_below hbl)
  clear hmw
  go_wp2_with fail
  refine Calls.mono (hbe.out _) ?_
  rintro e w4 ⟨rfl, hb4, hbb⟩
  rw [esz] at hb4 hbb ⊢
  have nx4 := (hbb.block _ (Nat.lt_succ_self _)).trans nb0
  obtain ⟨v1, _⟩ := nb_facts nx4
  have l4 := (Array.getElem?_eq_some_iff.1 nx4).1
  rw [← esz] at hbb
  have HBB : Hid _ := hbb
  clear hbe hbb nb0 dgw hfz z1 nx3 d10
  go_wp2_with fail
  refine Calls.mono (HAM.out _ _ hb4) ?_
  rintro e w5 ⟨rfl, rfl⟩
  clear HAM
  go_wp2
  go_ret
  exact ⟨rfl, HFIN.out _ HBB.out⟩

set_option maxHeartbeats 4000000 in
/-- There is no such process: refused. -/
theorem kstep_none {w : World} {B hb : Nat} {P : PLay} {ops : List Op3} {went : List Bool} (h : KRep w B hb P ops went) (p : Int) (hp : p < 0 ∨ (P.procs.length : Int) ≤ p) (draw : Int) :
    Calls Try.prog 43 #[.pointer (some ⟨hb, 0, none⟩), I p, I draw] w fun e w' => e = .returned (.bool true) ∧ Below w.heap.size w w' := by
  have hs := pStep_none h.prog p hp draw
  have c0 := h.t
  obtain ⟨_, _, _, ao, cap, c9, q1, q2, q3⟩ := h.conf
  have hlen := h.len
  rw [hlen] at c9 q1 q2
  unfold maxLen at q2 q3
  replace hs : Hid _ := hs
  clear h
  by_cases h0 : p < 0
  · have b0 : decide (p < 0) = true := by simp [h0]
    go_enter Try.func43, Try.ntmps43
    go_wp2_with fail
    refine Calls.mono hs.out ?_
    rintro e w1 ⟨rfl, hb1⟩
    go_wp2
    go_ret
    exact ⟨rfl, hb1⟩
  · have b0 : decide (p < 0) = false := by simp; omega
    have b1 : (P.procs.length : Int) ≤ p := by omega
    go_enter Try.func43, Try.ntmps43
    go_wp2_with fail
    refine Calls.mono hs.out ?_
    rintro e w1 ⟨rfl, hb1⟩
    go_wp2
    go_ret
    exact ⟨rfl, hb1⟩

set_option maxHeartbeats 4000000 in
/-- Who is Done does not step. -/
theorem kstep_done {w : World} {B hb : Nat} {P : PLay} {ops : List Op3} {went : List Bool} (h : KRep w B hb P ops went) (i : Nat) (hi : i < P.procs.length) (ha : (toldP P i).1 = 20) (draw : Int)
    (hs : ∀ W, PRep W B P → Calls Try.prog 57 #[.pointer (some ⟨P.tb, 0, none⟩), I i, I draw] W fun x w' => x = .returned (.tuple #[I 0, I 5]) ∧ Below W.heap.size W w') :
    Calls Try.prog 43 #[.pointer (some ⟨hb, 0, none⟩), I i, I draw] w fun e w' => e = .returned (.bool true) ∧ Below w.heap.size w w' := by
  have hat := fun W (hw : Below w.heap.size w W) => kat_c (h.below hw) (i : Int)
  rw [ha] at hat
  have hsp := fun W (hw : Below w.heap.size w W) => hs W (h.prog.below hw)
  obtain ⟨_, _, _, ao, cap, c9, q1, q2, q3⟩ := h.conf
  have hlen := h.len
  rw [hlen] at c9 q1 q2
  unfold maxLen at q2 q3
  have HT : Hid (∀ W, Below w.heap.size w W → W.cell? ⟨hb, 0, none⟩ = some (.pointer (some ⟨P.tb, 0, none⟩))) := fun W hw => (h.below hw).t
  have l0 := cell_lt c9
  have hi0 : decide ((i : Int) < 0) = false := by simp
  have hil : (i : Int) < (P.procs.length : Int) := by omega
  generalize (toldP P i).2.1 = a1 at *
  generalize (toldP P i).2.2 = a2 at *
  replace hat : Hid _ := hat
  replace hsp : Hid _ := hsp
  clear h hs ha
  go_enter Try.func43, Try.ntmps43
  go_wp2_with fail
  refine Calls.mono (hat.out _ (Below.refl _ _)) ?_
  rintro e w1 ⟨rfl, hb1⟩
  have c0 := HT.out w1 hb1
  have l1 := cell_lt c0
  clear hat c9
  have hba := hb1.alloc hb1.size (.cells #[I 20, I a1, I a2] 84)
  have hna : (w1.alloc (.cells #[I 20, I a1, I a2] 84)).heap[w1.heap.size]? = some (.cells #[I 20, I a1, I a2] 84 (0, 0)) := nb_alloc _ _ _
  go_wp2_with fail
  refine Calls.mono (hsp.out _ hba) ?_
  rintro e w2 ⟨rfl, hb2⟩
  have nx2 := (hb2.block _ (by simp)).trans hna
  obtain ⟨y1, _⟩ := nb_facts nx2
  have l2 := (Array.getElem?_eq_some_iff.1 nx2).1
  clear hsp
  go_wp2
  go_ret
  exact ⟨rfl, hba.trans (hb2.mono hba.size)⟩

end Go.Proofs.Ytjnmpejcegmkhaa
