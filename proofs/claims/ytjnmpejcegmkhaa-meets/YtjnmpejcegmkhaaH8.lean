/- Spawn of a hand, and the blocks beside what it has begun; steps of a hand, one after another. No statement of the seat is proved here. -/
import Derived.Test.YtjnmpejcegmkhaaH4
import Derived.Test.YtjnmpejcegmkhaaH8E
import Derived.Test.YtjnmpejcegmkhaaKeep10

namespace Go.Proofs.Ytjnmpejcegmkhaa
open Go.RowKit

/-- Block k holds an operation, and is none of what hand hb has begun. -/
def Free (w : World) (hb k : Nat) (cs : Array Value) : Prop := w.heap[k]? = some (.cells cs 33 (0, 0)) ∧ ∀ ov, w.cell? ⟨hb, 9, none⟩ = some ov → ov.ownBlock ≠ some k

set_option maxHeartbeats 8000000 in
set_option maxRecDepth 100000 in
theorem kspawn_ok2 {w : World} {B hb : Nat} {P : PLay} {ops : List Op3} {went : List Bool} (h : KRep w B hb P ops went) (hB : B ≤ w.heap.size) (kd vl nd : Int) (hd0 : 0 ≤ P.c.depth) (hd4 : P.c.depth ≤ 4) (he : refusalK P ⟨kd, vl, nd⟩ = 0) (hn : P.procs.length < 256)
    (hs : ∀ W, PRep W B P → B ≤ W.heap.size → Calls Try.prog 40 #[.pointer (some ⟨P.tb, 0, none⟩), .agg #[I kd, I vl, I nd]] W fun x w' => x = .returned (.tuple #[I P.procs.length, I 0]) ∧ (∃ y, PRep w' B { P with pv := y, procs := P.procs ++ [newPP ⟨kd, vl, nd⟩] }) ∧ ChgT B [78, 119] W w') :
    Calls Try.prog 18 #[.pointer (some ⟨hb, 0, none⟩), .agg #[I kd, I vl, I nd]] w fun e w' => e = .returned (.bool true) ∧ (∃ y, KRep w' B hb { P with pv := y, procs := P.procs ++ [newPP ⟨kd, vl, nd⟩] } (ops ++ [⟨kd, vl, nd⟩]) (went ++ [false])) ∧ ChgT B [78, 119, 33, 4, 38] w w' ∧ ∀ k cs, Free w hb k cs → Free w' hb k cs := by
  have hr := fun W (hw : Below w.heap.size w W) => krefusal_c (h.below hw) kd vl nd hd0 hd4
  rw [he] at hr
  have hsp := fun W (hw : Below w.heap.size w W) => hs W (h.prog.below hw) (Nat.le_trans hB hw.size)
  obtain ⟨ov, wv, hm⟩ := h.mem
  have hlen := h.len
  have hwlen := h.wlen
  have HC9 : Hid (w.cell? ⟨hb, 9, none⟩ = some ov) := by show _ = _; rw [(nb_facts hm.blk).1 9]; rfl
  have HOV : Hid (∀ k, ov.ownBlock = some k → k < w.heap.size) := fun k hk' => (hm.rop.lt k hk').2
  have HT : Hid (∀ W, Below w.heap.size w W → W.cell? ⟨hb, 0, none⟩ = some (.pointer (some ⟨P.tb, 0, none⟩))) := fun W hw => (h.below hw).t
  have l0 := cell_lt h.t
  have hba : Below w.heap.size w (w.alloc (.cells #[I kd, I vl, I nd] 33)) := (Below.refl _ _).alloc (Nat.le_refl _) _
  have noa : (w.alloc (.cells #[I kd, I vl, I nd] 33)).heap[w.heap.size]? = some (.cells #[I kd, I vl, I nd] 33 (0, 0)) := nb_alloc _ _ _
  replace hr : Hid _ := hr
  replace hsp : Hid _ := hsp
  clear h hs he
  go_enter Try.func18, Try.ntmps18
  go_wp2_with fail
  refine Calls.mono (hr.out _ hba) ?_
  rintro e w1 ⟨rfl, hb1⟩
  have hb2 : Below w.heap.size w w1 := hba.trans (hb1.mono (by simp))
  have nx : w1.heap[w.heap.size]? = some (.cells #[I kd, I vl, I nd] 33 (0, 0)) := (hb1.block _ (by simp)).trans noa
  obtain ⟨x1, _⟩ := nb_facts nx
  have l1 := (Array.getElem?_eq_some_iff.1 nx).1
  have c0 := HT.out w1 hb2
  clear hb1 hr hba noa
  go_wp2_with fail
  go_cut [6, 7] (fun s6 s7 wx => s6 = I P.procs.length ∧ s7 = I 0 ∧ (∃ y, KMem wx B hb { P with pv := y, procs := P.procs ++ [newPP ⟨kd, vl, nd⟩] } ov wv ops went) ∧ wx.heap[w.heap.size]? = some (.cells #[I kd, I vl, I nd] 33 (0, 0)) ∧ ChgT B [78, 119] w wx)
  case first =>
    go_region_with (go_at_call 40; refine (hsp.out _ (by first | exact hb2.drew | exact (hb2.alloc hb2.size _).drew)).mono ?_; rintro e w2 ⟨rfl, ⟨y, hpr⟩, hc2⟩)
    all_goals
      go_wp2_with fail
      go_meet
      exact ⟨rfl, rfl, ⟨y, (hm.below hb2.drew).spawned hc2 hpr⟩, hc2.at nx (by decide), (ChgT.of_below hb2.drew).trans hc2⟩
  case rest =>
    obtain ⟨rfl, rfl, ⟨y, hm2⟩, nx2, hc2⟩ := hcut
    clear hsp HT hm x1 c0 nx hb2 l1
    generalize wc = w2 at *
    obtain ⟨y1, _⟩ := nb_facts nx2
    have l2 := (Array.getElem?_eq_some_iff.1 nx2).1
    obtain ⟨g1, g2⟩ := nb_facts hm2.blk
    have d9 : w2.cell? ⟨hb, 9, none⟩ = some ov := by rw [g1 9]; rfl
    obtain ⟨ao, cap, e1, q1, q2, q3, _⟩ := ownsRow_cells hm2.rop
    rw [e1, hlen] at d9
    have lh := cell_lt d9
    unfold maxLen at q2 q3
    have hne : hb ≠ w.heap.size := by omega
    have hBc : B ≤ w2.heap.size := Nat.le_trans hB hc2.size
    clear g1
    have HB2 : Hid (Below w2.heap.size w2 ((w2.alloc (.cells #[I kd, I vl, I nd] 33)).drew)) := ((Below.refl _ _).alloc (Nat.le_refl _) _).drew
    have HO : Hid (((w2.alloc (.cells #[I kd, I vl, I nd] 33)).drew).ownsRow B 33 3 (.slice ao P.procs.length cap) P.procs.length (ops.flatMap opCells)) := by
      have := ownsRow_below hm2.rop HB2.out (Nat.le_refl _)
      rw [e1, hlen] at this
      exact this
    have HN : Hid (∀ j u, [I kd, I vl, I nd][j]? = some u → ((w2.alloc (.cells #[I kd, I vl, I nd] 33)).drew).cell? ((⟨w2.heap.size, 0, none⟩ : Addr).add j) = some u) := cells_new w2 [I kd, I vl, I nd] 33
    have H1 : Hid (∀ u ∈ [I kd, I vl, I nd], u.oneCell' = true) := by
      intro u hu
      simp only [List.mem_cons, List.not_mem_nil, or_false] at hu
      rcases hu with h | h | h <;> subst h <;> rfl
    have HBB : Hid (B ≤ ((w2.alloc (.cells #[I kd, I vl, I nd] 33)).drew).heap.size) := by
      show B ≤ (w2.alloc _).heap.size
      simp; omega
    have HM : Hid (P.procs.length + 1 ≤ maxLen) := by show _ ≤ _; unfold maxLen; omega
    have HY : Hid ((P.procs.length + 1) * 24 ≤ 140737488355328) := by show _ ≤ _; omega
    have HH : Hid (((w2.alloc (.cells #[I kd, I vl, I nd] 33)).drew).heap.size = w2.heap.size + 1) := by
      show (w2.alloc _).heap.size = _
      simp
    have HC : Hid (∀ w', ((w2.alloc (.cells #[I kd, I vl, I nd] 33)).drew).grownBy w' (Value.slice ao P.procs.length cap).ownBlock → w'.cell? ⟨hb, 9, none⟩ = some (.slice ao P.procs.length cap) ∧ w'.frozen? ⟨hb, 9, none⟩ = false) := by
      intro w' hg
      have hc := grown_chg HO.out hg
      have hbk := hc.at (hm2.below HB2.out).blk (by decide)
      obtain ⟨k1, k2⟩ := nb_facts hbk
      refine ⟨?_, k2 9⟩
      rw [k1 9, ← hlen, ← e1]
      rfl
    have HP : Hid (∀ w' x, w'.ownsRow B 33 3 x (P.procs.length + 1) (ops.flatMap opCells ++ [I kd, I vl, I nd]) → ((w2.alloc (.cells #[I kd, I vl, I nd] 33)).drew).grownBy w' (Value.slice ao P.procs.length cap).ownBlock →
        KMem (w'.setCell ⟨hb, 9, none⟩ x) B hb { P with pv := y, procs := P.procs ++ [newPP ⟨kd, vl, nd⟩] } x wv (ops ++ [⟨kd, vl, nd⟩]) went ∧ ChgT B [33, 38] w2 (w'.setCell ⟨hb, 9, none⟩ x) ∧ (w'.setCell ⟨hb, 9, none⟩ x).heap[w.heap.size]? = some (.cells #[I kd, I vl, I nd] 33 (0, 0)) ∧
        ∀ k cs, w2.heap[k]? = some (.cells cs 33 (0, 0)) → ov.ownBlock ≠ some k → (w'.setCell ⟨hb, 9, none⟩ x).heap[k]? = some (.cells cs 33 (0, 0))) := by
      intro w' x a1 a2
      rw [← hlen] at a1 a2
      rw [← e1] at a2
      obtain ⟨b1, b2⟩ := hm2.pushOp HB2.out ⟨kd, vl, nd⟩ a1 a2
      refine ⟨b1, b2, ?_, fun k cs hk hne => ?_⟩
      · rw [Below.heap_setCell _ _ _ _ (by show w.heap.size ≠ hb; omega), a2.block w.heap.size (by show w.heap.size < (w2.alloc _).heap.size; simp; omega) (fun e => by have := HOV.out _ e.symm; omega), HB2.out.block _ l2]
        exact nx2
      · have lk := (Array.getElem?_eq_some_iff.1 hk).1
        have hkb : k ≠ hb := by
          rintro rfl
          rw [hm2.blk] at hk
          simp only [Option.some.injEq, Obj.cells.injEq] at hk
          exact absurd hk.2.1 (by decide)
        rw [Below.heap_setCell _ _ _ _ hkb, a2.block k (by show k < (w2.alloc _).heap.size; simp; omega) (fun e => hne e.symm), HB2.out.block _ lk]
        exact hk
    have HLI : Hid (∀ g, ((Value.slice ao P.procs.length cap).ownBlock = some g ∨ g = w2.heap.size + 1) → ov.ownBlock = some g ∨ g = w2.heap.size + 1) := by
      intro g h
      rw [e1, hlen]
      exact h
    clear e1
    obtain ⟨i0, hi, hz0, hz1, hz2⟩ := info_parts Try.info33
    go_wp2_with fail
    go_cut [] (fun wx => ∃ x, KMem wx B hb { P with pv := y, procs := P.procs ++ [newPP ⟨kd, vl, nd⟩] } x wv (ops ++ [⟨kd, vl, nd⟩]) went ∧ ChgT B [33, 38] w2 wx ∧ wx.heap[w.heap.size]? = some (.cells #[I kd, I vl, I nd] 33 (0, 0)) ∧ Hid (∀ k cs, w2.heap[k]? = some (.cells cs 33 (0, 0)) → ov.ownBlock ≠ some k → wx.heap[k]? = some (.cells cs 33 (0, 0)) ∧ x.ownBlock ≠ some k))
    case first =>
      go_region_law (refine step_append_lies _ rfl (.tmp 41) (.tmp 43) 35 rfl B 33 i0 _ 3 24 Try.underlying35 hi hz0 hz1 hz2 rfl (by decide) _ _ _ rfl HO.out ⟨w2.heap.size, 0, none⟩ 1 1 [I kd, I vl, I nd] rfl rfl HN.out H1.out (by decide) HM.out HY.out HBB.out (w2.heap.size + 1) HH.out ?_; intro g cp w4 ho4 hg4 hli _; obtain ⟨cc1, cc2⟩ := HC.out _ hg4; have hfin := HP.out _ _ ho4 hg4; replace hfin : Hid _ := hfin; replace hli : Hid _ := hli; clear hg4 ho4)
      all_goals
        go_wp2_with fail
        go_meet
        refine ⟨_, hfin.out.1, hfin.out.2.1, hfin.out.2.2.1, fun k cs hk hne => ⟨hfin.out.2.2.2 k cs hk hne, fun e => ?_⟩⟩
        have lk := (Array.getElem?_eq_some_iff.1 hk).1
        have eg : g = k := by simpa [Value.ownBlock] using e
        rcases HLI.out g hli.out with x | x
        · rw [eg] at x; exact hne x
        · omega
    case rest =>
      obtain ⟨x9, hm3, hc3, nx3, hfr⟩ := hcut
      generalize wc = w3 at *
      have HF3 : Hid (∀ k cs, Free w hb k cs → w3.heap[k]? = some (.cells cs 33 (0, 0)) ∧ x9.ownBlock ≠ some k) := fun k cs hf => hfr.out k cs (hc2.at hf.1 (by decide)) (hf.2 ov HC9.out)
      clear hfr HLI
      clear HP HC HH HY HM HBB H1 HN HO HB2 hi hz0 hz1 hz2 d9 g2 y1 q1 q2 q3 hm2 nx2
      have l3 := (Array.getElem?_eq_some_iff.1 nx3).1
      obtain ⟨y1, _⟩ := nb_facts nx3
      obtain ⟨g1, g2⟩ := nb_facts hm3.blk
      have d10 : w3.cell? ⟨hb, 10, none⟩ = some wv := by rw [g1 10]; rfl
      obtain ⟨ao2, cap2, e1, q1, q2, q3, _⟩ := ownsRow_cells hm3.rwe
      rw [e1, hwlen, hlen] at d10
      have lh3 := cell_lt d10
      unfold maxLen at q2 q3
      have hBc3 : B ≤ w3.heap.size := Nat.le_trans hBc hc3.size
      clear g1
      have HB2 : Hid (Below w3.heap.size w3 (w3.alloc (.cells #[.bool false] 4))) := (Below.refl _ _).alloc (Nat.le_refl _) _
      have HO : Hid ((w3.alloc (.cells #[.bool false] 4)).ownsRow B 4 1 (.slice ao2 P.procs.length cap2) P.procs.length (went.map Value.bool)) := by
        have := ownsRow_below hm3.rwe HB2.out (Nat.le_refl _)
        rw [e1, hwlen, hlen] at this
        exact this
      have HN : Hid (∀ j u, [Value.bool false][j]? = some u → (w3.alloc (.cells #[.bool false] 4)).cell? ((⟨w3.heap.size, 0, none⟩ : Addr).add j) = some u) := cells_new w3 [.bool false] 4
      have H1 : Hid (∀ u ∈ [Value.bool false], u.oneCell' = true) := by
        intro u hu
        simp only [List.mem_cons, List.not_mem_nil, or_false] at hu
        subst hu
        rfl
      have HBB : Hid (B ≤ (w3.alloc (.cells #[.bool false] 4)).heap.size) := by
        show B ≤ (w3.alloc _).heap.size
        simp; omega
      have HM : Hid (P.procs.length + 1 ≤ maxLen) := by show _ ≤ _; unfold maxLen; omega
      have HY : Hid ((P.procs.length + 1) * 1 ≤ 140737488355328) := by show _ ≤ _; omega
      have HH : Hid ((w3.alloc (.cells #[.bool false] 4)).heap.size = w3.heap.size + 1) := by
        show (w3.alloc _).heap.size = _
        simp
      have HC : Hid (∀ w', (w3.alloc (.cells #[.bool false] 4)).grownBy w' (Value.slice ao2 P.procs.length cap2).ownBlock → w'.cell? ⟨hb, 10, none⟩ = some (.slice ao2 P.procs.length cap2) ∧ w'.frozen? ⟨hb, 10, none⟩ = false) := by
        intro w' hg
        have hc := grown_chg HO.out hg
        have hbk := hc.at (hm3.below HB2.out).blk (by decide)
        obtain ⟨k1, k2⟩ := nb_facts hbk
        refine ⟨?_, k2 10⟩
        rw [k1 10, ← hlen, ← hwlen, ← e1]
        rfl
      have HP : Hid (∀ w' x, w'.ownsRow B 4 1 x (P.procs.length + 1) (went.map Value.bool ++ [.bool false]) → (w3.alloc (.cells #[.bool false] 4)).grownBy w' (Value.slice ao2 P.procs.length cap2).ownBlock →
          KMem (w'.setCell ⟨hb, 10, none⟩ x) B hb { P with pv := y, procs := P.procs ++ [newPP ⟨kd, vl, nd⟩] } x9 x (ops ++ [⟨kd, vl, nd⟩]) (went ++ [false]) ∧ ChgT B [4, 38] w3 (w'.setCell ⟨hb, 10, none⟩ x)) := by
        intro w' x a1 a2
        rw [← hlen, ← hwlen] at a1 a2
        rw [← e1] at a2
        exact hm3.pushWent HB2.out false a1 a2
      clear e1
      obtain ⟨i1, hi, hz0, hz1, hz2⟩ := info_parts Try.info4
      go_wp2_with (at_builtin; go_must (refine wpList_append_lies _ rfl (.tmp 51) (.tmp 52) 36 rfl B 4 i1 _ 1 1 Try.underlying36 hi hz0 hz1 hz2 rfl (by decide) _ _ _ rfl HO.out ⟨w3.heap.size, 0, none⟩ 1 1 [.bool false] rfl rfl HN.out H1.out (by decide) HM.out HY.out HBB.out (w3.heap.size + 1) HH.out ?_))
      intro g cp w4 ho4 hg4 _ _
      obtain ⟨cc1, cc2⟩ := HC.out _ hg4
      have hfin := HP.out _ _ ho4 hg4
      obtain ⟨hm4, hc4⟩ := hfin
      have nx4 := hc4.at nx3 (by decide)
      have c04 : (w4.setCell ⟨hb, 10, none⟩ (.slice (some ⟨g, 0, none⟩) (P.procs.length + 1) cp)).cell? ⟨hb, 0, none⟩ = some (.pointer (some ⟨P.tb, 0, none⟩)) := by rw [(nb_facts hm4.blk).1 0]; rfl
      have l4 := cell_lt c04
      have lx4 := (Array.getElem?_eq_some_iff.1 nx4).1
      obtain ⟨z1, _⟩ := nb_facts nx4
      have hpc := fun W (hw : Below _ _ W) => pproc_c (hm4.prog.below (w' := W) hw) P.procs.length
      have hpv : pprocV { P with pv := y, procs := P.procs ++ [newPP ⟨kd, vl, nd⟩] } P.procs.length = .tuple #[.agg #[I (newPP ⟨kd, vl, nd⟩).phase, I 1, I 0], I 0] := by
        unfold pprocV
        rw [if_pos ⟨by omega, by simp; omega⟩]
        simp [newPP]
      rw [hpv] at hpc
      have hways : ((decide (kd = 3) || decide (kd = 4)) = false ∧ (newPP ⟨kd, vl, nd⟩).phase = 0) ∨ ((decide (kd = 3) || decide (kd = 4)) = true ∧ (nd == 1) = true ∧ (newPP ⟨kd, vl, nd⟩).phase = 15) ∨ ((decide (kd = 3) || decide (kd = 4)) = true ∧ (nd == 1) = false ∧ (newPP ⟨kd, vl, nd⟩).phase = 0) := by
        unfold newPP isChange
        by_cases e1 : (decide (kd = 3) || decide (kd = 4)) = true
        · by_cases e2 : nd = 1
          · right; left
            refine ⟨e1, by simp [e2], ?_⟩
            simp only
            rw [if_pos ⟨e1, e2⟩]
          · right; right
            refine ⟨e1, by simp [e2], ?_⟩
            simp only
            rw [if_neg fun h => e2 h.2]
        · left
          refine ⟨by simpa using e1, ?_⟩
          simp only
          rw [if_neg fun h => e1 h.1]
      have hcg := fun W => changer_c kd W
      replace hpc : Hid _ := hpc
      replace hcg : Hid _ := hcg
      have HM4 : Hid _ := hm4
      have HC4 : Hid _ := hc4
      have CC1 : Hid _ := c04
      clear HP HC HH HY HM HBB H1 HN HO HB2 hi hz0 hz1 hz2 d10 y1 q1 q2 q3 hm3 nx3 hg4 ho4 hpv hm4 hc4
      have HFIN : Hid (∀ W, Below (w4.setCell ⟨hb, 10, none⟩ (.slice (some ⟨g, 0, none⟩) (P.procs.length + 1) cp)).heap.size (w4.setCell ⟨hb, 10, none⟩ (.slice (some ⟨g, 0, none⟩) (P.procs.length + 1) cp)) W → (∃ y, KRep W B hb { P with pv := y, procs := P.procs ++ [newPP ⟨kd, vl, nd⟩] } (ops ++ [⟨kd, vl, nd⟩]) (went ++ [false])) ∧ ChgT B [78, 119, 33, 4, 38] w W ∧ ∀ k cs, Free w hb k cs → Free W hb k cs) := by
        intro W hw
        have hmW := HM4.out.below hw
        refine ⟨⟨y, ⟨_, _, hmW.blk, hmW.rop, hmW.rwe⟩, hmW.hB, hmW.prog, by simp [hlen], by simp [hwlen]⟩, ?_, fun k cs hf => ?_⟩
        case refine_2 =>
          obtain ⟨f1, f2⟩ := HF3.out k cs hf
          have f3 := HC4.out.at f1 (by decide)
          refine ⟨(hw.block k (Array.getElem?_eq_some_iff.1 f3).1).trans f3, fun ov' h9 => ?_⟩
          have h9' : W.cell? ⟨hb, 9, none⟩ = some x9 := by rw [(nb_facts hmW.blk).1 9]; rfl
          rw [h9'] at h9
          simp only [Option.some.injEq] at h9
          rw [← h9]
          exact f2
        exact (((hc2.mono (Nat.le_refl _) (by simp)).trans (hc3.mono (Nat.le_refl _) (by simp))).trans (HC4.out.mono (Nat.le_refl _) (by simp))).trans (ChgT.of_below hw)
      have NX4 : Hid _ := nx4
      clear HM4 HC4 hc2 hc3 HF3
      have HWS : Hid _ := hways
      clear hways
      generalize (newPP ⟨kd, vl, nd⟩).phase = f0 at *
      generalize (decide (kd = 3) || decide (kd = 4)) = cb at *
      go_wp2_with fail
      refine Calls.mono (hpc.out _ (Below.refl _ _)) ?_
      rintro e w5 ⟨rfl, hb5⟩
      have nx5 := (hb5.block _ lx4).trans NX4.out
      obtain ⟨z5, _⟩ := nb_facts nx5
      have l5 := (Array.getElem?_eq_some_iff.1 nx5).1
      have HB5 : Hid _ := hb5
      clear hb5 hpc z1 nx4 NX4 cc1 cc2 g2 c04 CC1 l4 lx4
      go_wp2_with fail
      refine Calls.mono (hcg.out _) ?_
      rintro e w6 ⟨rfl, rfl⟩
      clear hcg
      rcases HWS.out with ⟨rfl, rfl⟩ | ⟨rfl, bn, rfl⟩ | ⟨rfl, bn, rfl⟩
      · go_wp2
        go_ret
        exact ⟨rfl, HFIN.out _ (HB5.out.alloc HB5.out.size _)⟩
      · go_wp2
        go_ret
        exact ⟨rfl, HFIN.out _ (HB5.out.alloc HB5.out.size _)⟩
      · go_wp2
        go_ret
        exact ⟨rfl, HFIN.out _ (HB5.out.alloc HB5.out.size _)⟩

theorem hspawn2_c {w : World} {B hb : Nat} {c : Conf} {S : Gh} {P : PLay} (h : KSt w B hb c S P) (o : Op3) (hok : okOp c o ∧ S.L.procs.length < 256 ∧ (liveL S.L.procs : Int) < c.procs) :
    Calls Try.prog 18 #[.pointer (some ⟨hb, 0, none⟩), opV o] w fun e w' => e = .returned (.bool true) ∧ (∃ P', KSt w' B hb c (gspawn c S o) P') ∧ ChgT B KT w w' ∧ ∀ k cs, Free w hb k cs → Free w' hb k cs := by
  obtain ⟨d0, d4⟩ := h.deep
  have lvP : pliveL P.procs = liveL S.L.procs := plive_w h.rel.rel
  have hpl := h.rel.plen
  have cP := h.rel.rel.cP
  unfold opV
  · have okP : okOp P.c o := by rw [cP]; exact hok.1
    have hn : P.procs.length < 256 := by omega
    have hlv : (pliveL P.procs : Int) < P.c.procs := by rw [lvP, cP]; exact hok.2.2
    have hre : refusalK P ⟨o.kind, o.val, o.node⟩ = 0 := by
      unfold refusalK
      rw [if_neg (by simpa using okP), if_neg (by omega), if_neg (by omega)]
    refine (kspawn_ok2 h.rep h.hB o.kind o.val o.node d0 d4 hre hn (fun W hW hB => pspawn_yes hW hB o okP d0 d4 hn hlv)).mono ?_
    rintro e w' ⟨rfl, ⟨y, hk⟩, hc, hfr⟩
    refine ⟨rfl, ⟨{ P with pv := y, procs := P.procs ++ [newPP ⟨o.kind, o.val, o.node⟩] }, ?_⟩, hc.mono (Nat.le_refl _) (by simp), hfr⟩
    have eg : gspawn c S o = ⟨{ S.L with procs := S.L.procs ++ [(0, newPr o)] }, S.ops ++ [o], S.went ++ [false]⟩ := by unfold gspawn; rw [if_pos hok]
    rw [eg]
    refine ⟨hk, ?_, Nat.le_trans h.hB hc.size, ?_⟩
    · exact h.rel.push o hok.1 0 S.L.pv y hok.2.1 hok.2.2
    · have ho := h.of
      refine ⟨by simp [ho.wlen], ?_, fun i hi h4 h10 => ?_, fun i hi hi' hw => ?_⟩
      · show S.ops ++ [o] = opsL { S.L with procs := S.L.procs ++ [(0, newPr o)] }
        rw [ho.op]
        simp [opsL, toPPs, ppOp, toPP, newPr]
      · simp only [List.length_append, List.length_cons, List.length_nil] at hi
        by_cases e : i < S.L.procs.length
        · simp only [List.getElem_append_left e] at h4 h10 ⊢
          exact ho.slot i e h4 h10
        · have e' : i = S.L.procs.length := by omega
          subst e'
          simp only [List.getElem_append_right (Nat.le_refl _), Nat.sub_self, List.getElem_cons_zero] at h4 h10
          rcases new_phase o with x | x <;> omega
      · simp only [List.length_append, List.length_cons, List.length_nil] at hi hi'
        by_cases e : i < S.L.procs.length
        · have e2 : i < S.went.length := by have := ho.wlen; omega
          simp only [List.getElem_append_left e] at hw ⊢
          rw [List.getElem_append_left e2] at hw
          exact ho.new i e e2 hw
        · have e' : i = S.L.procs.length := by omega
          subst e'
          simp only [List.getElem_append_right (Nat.le_refl _), Nat.sub_self, List.getElem_cons_zero]
          exact ⟨rfl, rfl, rfl⟩

theorem Free.keep {w w' : World} {B hb : Nat} {P : PLay} {ops : List Op3} {went : List Bool} {k : Nat} {cs : Array Value} (hf : Free w hb k cs) (hk : KRep w B hb P ops went) (hc : ChgT B KS w w') : Free w' hb k cs := by
  obtain ⟨ov, wv, hm⟩ := hk.mem
  refine ⟨hc.at hf.1 (by decide), fun ov' h9 => ?_⟩
  have e1 : w.cell? ⟨hb, 9, none⟩ = some ov := by rw [(nb_facts hm.blk).1 9]; rfl
  have e2 : w'.cell? ⟨hb, 9, none⟩ = some ov := by rw [(nb_facts (hc.at hm.blk (by decide))).1 9]; rfl
  rw [e2] at h9
  simp only [Option.some.injEq] at h9
  rw [← h9]
  exact hf.2 ov e1

/-- A hand whose document's tree is L. -/
def KL (w : World) (B hb : Nat) (c : Conf) (L : Lay) : Prop := ∃ S P, KSt w B hb c S P ∧ S.L = L

theorem KL.below {w w' : World} {B hb : Nat} {c : Conf} {L : Lay} (h : KL w B hb c L) (hb' : Below w.heap.size w w') : KL w' B hb c L := by
  obtain ⟨S, P, a, b⟩ := h
  exact ⟨S, P, a.below hb', b⟩

theorem hlstep_c {w : World} {B hb : Nat} {c : Conf} {L : Lay} (h : KL w B hb c L) (i : Nat) (hi : i < L.procs.length) (hl : phaseAt L i ≠ 20) (draw : Int) :
    Calls Try.prog 43 #[.pointer (some ⟨hb, 0, none⟩), I i, I draw] w fun e w' => e = .returned (.bool true) ∧ KL w' B hb c (lstep L i draw) ∧ ChgT B KS w w' ∧ ∀ k cs, Free w hb k cs → Free w' hb k cs := by
  obtain ⟨S, P, hk, rfl⟩ := h
  refine (hstep2_c hk (i : Int) draw).mono ?_
  rintro e w' ⟨rfl, ⟨P', hk'⟩, hc⟩
  refine ⟨rfl, ⟨_, P', hk', ?_⟩, hc, fun k cs hf => hf.keep hk.rep hc⟩
  unfold gstep
  rw [if_pos ⟨by omega, by omega, by rw [Int.toNat_natCast]; exact hl⟩, Int.toNat_natCast]

theorem hlat_c {w : World} {B hb : Nat} {c : Conf} {L : Lay} (h : KL w B hb c L) (i : Nat) (hi : i < L.procs.length) :
    Calls Try.prog 44 #[.pointer (some ⟨hb, 0, none⟩), I i] w fun e w' => e = .returned (.agg #[I (L.procs[i]).2.phase, I (L.procs[i]).2.node, I (L.procs[i]).2.val]) ∧ Below w.heap.size w w' := by
  obtain ⟨S, P, hk, rfl⟩ := h
  have := kat_c hk.rep (i : Int)
  rw [hk.told i hi] at this
  exact this

theorem hrun_c {w : World} {B hb : Nat} {c : Conf} (i : Nat) (d : Int) (n : Nat) (hn : n ≤ 100) (seq : Nat → Lay) (h : KL w B hb c (seq 0)) (hlen : ∀ k, k ≤ n → i < (seq k).procs.length) (hlive : ∀ k, k < n → phaseAt (seq k) i ≠ 20) (hs : ∀ k, k < n → lstep (seq k) i d = seq (k + 1)) :
    Calls Try.prog 19 #[.pointer (some ⟨hb, 0, none⟩), I i, I n, I d] w fun e w' => e = .returned (.tuple #[I (phaseAt (seq n) i), .bool true]) ∧ KL w' B hb c (seq n) ∧ ChgT B KS w w' ∧ ∀ k cs, Free w hb k cs → Free w' hb k cs := by
  refine krun_c hb i d n hn (fun k W => KL W B hb c (seq k) ∧ ChgT B KS w W ∧ ∀ k cs, Free w hb k cs → Free W hb k cs) (phaseAt (seq n) i) ?_ ?_ ?_ w ⟨h, ChgT.refl _ _ _, fun _ _ x => x⟩
  · rintro k hk W ⟨h1, h2, h3⟩
    refine (hlstep_c h1 i (hlen k (by omega)) (hlive k hk) d).mono ?_
    rintro e w' ⟨rfl, a, b, f⟩
    rw [hs k hk] at a
    exact ⟨rfl, a, h2.trans b, fun k cs x => f k cs (h3 k cs x)⟩
  · rintro W ⟨h1, h2, h3⟩
    have hl := hlen n (Nat.le_refl _)
    refine (hlat_c h1 i hl).mono ?_
    rintro e w' ⟨rfl, hb'⟩
    refine ⟨⟨_, _, by rw [phaseAt_eq _ _ hl]⟩, h1.below hb', h2.trans (ChgT.of_below hb'), fun k cs x => ?_⟩
    obtain ⟨S, P, hk, _⟩ := h1
    exact (h3 k cs x).keep hk.rep (ChgT.of_below hb')
  · rintro W o ⟨h1, h2, h3⟩
    have hb' : Below W.heap.size W (W.alloc o) := (Below.refl _ _).alloc (Nat.le_refl _) _
    refine ⟨h1.below hb', h2.trans (ChgT.of_below hb'), fun k cs x => ?_⟩
    obtain ⟨S, P, hk, _⟩ := h1
    exact (h3 k cs x).keep hk.rep (ChgT.of_below hb')

end Go.Proofs.Ytjnmpejcegmkhaa
