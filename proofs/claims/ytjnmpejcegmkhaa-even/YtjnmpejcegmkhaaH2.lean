/- The contract of package prismkeep's spawn, of any operation. No statement of the seat is proved here. -/
import Derived.Test.YtjnmpejcegmkhaaH1
import Derived.Test.YtjnmpejcegmkhaaKeep6
namespace Go.Proofs.Ytjnmpejcegmkhaa
open Go.RowKit

set_option maxHeartbeats 8000000 in
set_option maxRecDepth 100000 in
theorem kspawn_err {w : World} {B hb : Nat} {P : PLay} {ops : List Op3} {went : List Bool} (h : KRep w B hb P ops went) (kd vl nd : Int) (hd0 : 0 ≤ P.c.depth) (hd4 : P.c.depth ≤ 4) (e0 : Int) (he : refusalK P ⟨kd, vl, nd⟩ = e0) (he0 : e0 ≠ 0)
    (hs : ∀ W, PRep W B P → Calls Try.prog 40 #[.pointer (some ⟨P.tb, 0, none⟩), .agg #[I kd, I vl, I nd]] W fun x w' => x = .returned (.tuple #[I 0, I e0]) ∧ Below W.heap.size W w') :
    Calls Try.prog 18 #[.pointer (some ⟨hb, 0, none⟩), .agg #[I kd, I vl, I nd]] w fun e w' => e = .returned (.bool true) ∧ Below w.heap.size w w' := by
  have hr := fun W (hw : Below w.heap.size w W) => krefusal_c (h.below hw) kd vl nd hd0 hd4
  rw [he] at hr
  have hsp := fun W (hw : Below w.heap.size w W) => hs W (h.prog.below hw)
  have HT : Hid (∀ W, Below w.heap.size w W → W.cell? ⟨hb, 0, none⟩ = some (.pointer (some ⟨P.tb, 0, none⟩))) := fun W hw => (h.below hw).t
  have l0 := cell_lt h.t
  have b0 : (e0 != 0) = true := by simp [he0]
  have hba : Below w.heap.size w (w.alloc (.cells #[I kd, I vl, I nd] 33)) := (Below.refl _ _).alloc (Nat.le_refl _) _
  have noa : (w.alloc (.cells #[I kd, I vl, I nd] 33)).heap[w.heap.size]? = some (.cells #[I kd, I vl, I nd] 33 (0, 0)) := nb_alloc _ _ _
  replace hr : Hid _ := hr
  replace hsp : Hid _ := hsp
  clear h hs he he0
  go_enter Try.func18, Try.ntmps18
  go_wp2_with fail
  refine Calls.mono (hr.out _ hba) ?_
  rintro e w1 ⟨rfl, hb1⟩
  have hb2 : Below w.heap.size w w1 := hba.trans (hb1.mono (by simp))
  have nx : w1.heap[w.heap.size]? = some (.cells #[I kd, I vl, I nd] 33 (0, 0)) := (hb1.block _ (by simp)).trans noa
  obtain ⟨x1, _⟩ := nb_facts nx
  have l1 := (Array.getElem?_eq_some_iff.1 nx).1
  have c0 := HT.out w1 hb2
  clear hb1 hr hba noa nx
  go_wp2_with fail
  go_region_with (go_at_call 40; refine (hsp.out _ (by first | exact hb2.drew | exact (hb2.alloc hb2.size _).drew)).mono ?_; rintro e w2 ⟨rfl, hb3⟩)
  all_goals
    go_wp2
    go_ret
    exact ⟨rfl, hb2.drew.trans (hb3.mono hb2.size)⟩

set_option maxHeartbeats 8000000 in
set_option maxRecDepth 100000 in
theorem kspawn_ok {w : World} {B hb : Nat} {P : PLay} {ops : List Op3} {went : List Bool} (h : KRep w B hb P ops went) (hB : B ≤ w.heap.size) (kd vl nd : Int) (hd0 : 0 ≤ P.c.depth) (hd4 : P.c.depth ≤ 4) (he : refusalK P ⟨kd, vl, nd⟩ = 0) (hn : P.procs.length < 256)
    (hs : ∀ W, PRep W B P → B ≤ W.heap.size → Calls Try.prog 40 #[.pointer (some ⟨P.tb, 0, none⟩), .agg #[I kd, I vl, I nd]] W fun x w' => x = .returned (.tuple #[I P.procs.length, I 0]) ∧ (∃ y, PRep w' B { P with pv := y, procs := P.procs ++ [newPP ⟨kd, vl, nd⟩] }) ∧ ChgT B [78, 119] W w') :
    Calls Try.prog 18 #[.pointer (some ⟨hb, 0, none⟩), .agg #[I kd, I vl, I nd]] w fun e w' => e = .returned (.bool true) ∧ (∃ y, KRep w' B hb { P with pv := y, procs := P.procs ++ [newPP ⟨kd, vl, nd⟩] } (ops ++ [⟨kd, vl, nd⟩]) (went ++ [false])) ∧ ChgT B [78, 119, 33, 4, 38] w w' := by
  have hr := fun W (hw : Below w.heap.size w W) => krefusal_c (h.below hw) kd vl nd hd0 hd4
  rw [he] at hr
  have hsp := fun W (hw : Below w.heap.size w W) => hs W (h.prog.below hw) (Nat.le_trans hB hw.size)
  obtain ⟨ov, wv, hm⟩ := h.mem
  have hlen := h.len
  have hwlen := h.wlen
  have HOV : Hid (∀ k, ov.ownBlock = some k → k < w.heap.size) := fun k hk' => (hm.rop.lt k hk').2
  have HT : Hid (∀ W, Below w.heap.size w W → W.cell? ⟨hb, 0, none⟩ = some (.pointer (some ⟨P.tb, 0, none⟩))) := fun W hw => (h.below hw).t
  have l0 := cell_lt h.t
  have hba : Below w.heap.size w (w.alloc (.cells #[I kd, I vl, I nd] 33)) := (Below.refl _ _).alloc (Nat.le_refl _) _
  have noa : (w.alloc (.cells #[I kd, I vl, I nd] 33)).heap[w.heap.size]? = some (.cells #[I kd, I vl, I nd] 33 (0, 0)) := nb_alloc _ _ _
  replace hr : Hid _ := hr
  replace hsp : Hid _ := hsp
  clear h hs he
  go_enter Try.func18, Try.ntmps18
  go_wp2_with fail
  refine Calls.mono (hr.out _ hba) ?_
  rintro e w1 ⟨rfl, hb1⟩
  have hb2 : Below w.heap.size w w1 := hba.trans (hb1.mono (by simp))
  have nx : w1.heap[w.heap.size]? = some (.cells #[I kd, I vl, I nd] 33 (0, 0)) := (hb1.block _ (by simp)).trans noa
  obtain ⟨x1, _⟩ := nb_facts nx
  have l1 := (Array.getElem?_eq_some_iff.1 nx).1
  have c0 := HT.out w1 hb2
  clear hb1 hr hba noa
  go_wp2_with fail
  go_cut [6, 7] (fun s6 s7 wx => s6 = I P.procs.length ∧ s7 = I 0 ∧ (∃ y, KMem wx B hb { P with pv := y, procs := P.procs ++ [newPP ⟨kd, vl, nd⟩] } ov wv ops went) ∧ wx.heap[w.heap.size]? = some (.cells #[I kd, I vl, I nd] 33 (0, 0)) ∧ ChgT B [78, 119] w wx)
  case first =>
    go_region_with (go_at_call 40; refine (hsp.out _ (by first | exact hb2.drew | exact (hb2.alloc hb2.size _).drew)).mono ?_; rintro e w2 ⟨rfl, ⟨y, hpr⟩, hc2⟩)
    all_goals
      go_wp2_with fail
      go_meet
      exact ⟨rfl, rfl, ⟨y, (hm.below hb2.drew).spawned hc2 hpr⟩, hc2.at nx (by decide), (ChgT.of_below hb2.drew).trans hc2⟩
  case rest =>
    obtain ⟨rfl, rfl, ⟨y, hm2⟩, nx2, hc2⟩ := hcut
    clear hsp HT hm x1 c0 nx hb2 l1
    generalize wc = w2 at *
    obtain ⟨y1, _⟩ := nb_facts nx2
    have l2 := (Array.getElem?_eq_some_iff.1 nx2).1
    obtain ⟨g1, g2⟩ := nb_facts hm2.blk
    have d9 : w2.cell? ⟨hb, 9, none⟩ = some ov := by rw [g1 9]; rfl
    obtain ⟨ao, cap, e1, q1, q2, q3, _⟩ := ownsRow_cells hm2.rop
    rw [e1, hlen] at d9
    have lh := cell_lt d9
    unfold maxLen at q2 q3
    have hne : hb ≠ w.heap.size := by omega
    have hBc : B ≤ w2.heap.size := Nat.le_trans hB hc2.size
    clear g1
    have HB2 : Hid (Below w2.heap.size w2 ((w2.alloc (.cells #[I kd, I vl, I nd] 33)).drew)) := ((Below.refl _ _).alloc (Nat.le_refl _) _).drew
    have HO : Hid (((w2.alloc (.cells #[I kd, I vl, I nd] 33)).drew).ownsRow B 33 3 (.slice ao P.procs.length cap) P.procs.length (ops.flatMap opCells)) := by
      have := ownsRow_below hm2.rop HB2.out (Nat.le_refl _)
      rw [e1, hlen] at this
      exact this
    have HN : Hid (∀ j u, [I kd, I vl, I nd][j]? = some u → ((w2.alloc (.cells #[I kd, I vl, I nd] 33)).drew).cell? ((⟨w2.heap.size, 0, none⟩ : Addr).add j) = some u) := cells_new w2 [I kd, I vl, I nd] 33
    have H1 : Hid (∀ u ∈ [I kd, I vl, I nd], u.oneCell' = true) := by
      intro u hu
      simp only [List.mem_cons, List.not_mem_nil, or_false] at hu
      rcases hu with h | h | h <;> subst h <;> rfl
    have HBB : Hid (B ≤ ((w2.alloc (.cells #[I kd, I vl, I nd] 33)).drew).heap.size) := by
      show B ≤ (w2.alloc _).heap.size
      simp; omega
    have HM : Hid (P.procs.length + 1 ≤ maxLen) := by show _ ≤ _; unfold maxLen; omega
    have HY : Hid ((P.procs.length + 1) * 24 ≤ 140737488355328) := by show _ ≤ _; omega
    have HH : Hid (((w2.alloc (.cells #[I kd, I vl, I nd] 33)).drew).heap.size = w2.heap.size + 1) := by
      show (w2.alloc _).heap.size = _
      simp
    have HC : Hid (∀ w', ((w2.alloc (.cells #[I kd, I vl, I nd] 33)).drew).grownBy w' (Value.slice ao P.procs.length cap).ownBlock → w'.cell? ⟨hb, 9, none⟩ = some (.slice ao P.procs.length cap) ∧ w'.frozen? ⟨hb, 9, none⟩ = false) := by
      intro w' hg
      have hc := grown_chg HO.out hg
      have hbk := hc.at (hm2.below HB2.out).blk (by decide)
      obtain ⟨k1, k2⟩ := nb_facts hbk
      refine ⟨?_, k2 9⟩
      rw [k1 9, ← hlen, ← e1]
      rfl
    have HP : Hid (∀ w' x, w'.ownsRow B 33 3 x (P.procs.length + 1) (ops.flatMap opCells ++ [I kd, I vl, I nd]) → ((w2.alloc (.cells #[I kd, I vl, I nd] 33)).drew).grownBy w' (Value.slice ao P.procs.length cap).ownBlock →
        KMem (w'.setCell ⟨hb, 9, none⟩ x) B hb { P with pv := y, procs := P.procs ++ [newPP ⟨kd, vl, nd⟩] } x wv (ops ++ [⟨kd, vl, nd⟩]) went ∧ ChgT B [33, 38] w2 (w'.setCell ⟨hb, 9, none⟩ x) ∧ (w'.setCell ⟨hb, 9, none⟩ x).heap[w.heap.size]? = some (.cells #[I kd, I vl, I nd] 33 (0, 0))) := by
      intro w' x a1 a2
      rw [← hlen] at a1 a2
      rw [← e1] at a2
      obtain ⟨b1, b2⟩ := hm2.pushOp HB2.out ⟨kd, vl, nd⟩ a1 a2
      refine ⟨b1, b2, ?_⟩
      rw [Below.heap_setCell _ _ _ _ (by show w.heap.size ≠ hb; omega), a2.block w.heap.size (by show w.heap.size < (w2.alloc _).heap.size; simp; omega) (fun e => by have := HOV.out _ e.symm; omega), HB2.out.block _ l2]
      exact nx2
    clear e1
    obtain ⟨i0, hi, hz0, hz1, hz2⟩ := info_parts Try.info33
    go_wp2_with fail
    go_cut [] (fun wx => ∃ x, KMem wx B hb { P with pv := y, procs := P.procs ++ [newPP ⟨kd, vl, nd⟩] } x wv (ops ++ [⟨kd, vl, nd⟩]) went ∧ ChgT B [33, 38] w2 wx ∧ wx.heap[w.heap.size]? = some (.cells #[I kd, I vl, I nd] 33 (0, 0)))
    case first =>
      go_region_law (refine step_append_lies _ rfl (.tmp 41) (.tmp 43) 35 rfl B 33 i0 _ 3 24 Try.underlying35 hi hz0 hz1 hz2 rfl (by decide) _ _ _ rfl HO.out ⟨w2.heap.size, 0, none⟩ 1 1 [I kd, I vl, I nd] rfl rfl HN.out H1.out (by decide) HM.out HY.out HBB.out (w2.heap.size + 1) HH.out ?_; intro g cp w4 ho4 hg4 _ _; obtain ⟨cc1, cc2⟩ := HC.out _ hg4; have hfin := HP.out _ _ ho4 hg4; replace hfin : Hid _ := hfin; clear hg4 ho4)
      all_goals
        go_wp2_with fail
        go_meet
        exact ⟨_, hfin.out⟩
    case rest =>
      obtain ⟨x9, hm3, hc3, nx3⟩ := hcut
      clear HP HC HH HY HM HBB H1 HN HO HB2 hi hz0 hz1 hz2 d9 g2 y1 q1 q2 q3 hm2 nx2
      generalize wc = w3 at *
      have l3 := (Array.getElem?_eq_some_iff.1 nx3).1
      obtain ⟨y1, _⟩ := nb_facts nx3
      obtain ⟨g1, g2⟩ := nb_facts hm3.blk
      have d10 : w3.cell? ⟨hb, 10, none⟩ = some wv := by rw [g1 10]; rfl
      obtain ⟨ao2, cap2, e1, q1, q2, q3, _⟩ := ownsRow_cells hm3.rwe
      rw [e1, hwlen, hlen] at d10
      have lh3 := cell_lt d10
      unfold maxLen at q2 q3
      have hBc3 : B ≤ w3.heap.size := Nat.le_trans hBc hc3.size
      clear g1
      have HB2 : Hid (Below w3.heap.size w3 (w3.alloc (.cells #[.bool false] 4))) := (Below.refl _ _).alloc (Nat.le_refl _) _
      have HO : Hid ((w3.alloc (.cells #[.bool false] 4)).ownsRow B 4 1 (.slice ao2 P.procs.length cap2) P.procs.length (went.map Value.bool)) := by
        have := ownsRow_below hm3.rwe HB2.out (Nat.le_refl _)
        rw [e1, hwlen, hlen] at this
        exact this
      have HN : Hid (∀ j u, [Value.bool false][j]? = some u → (w3.alloc (.cells #[.bool false] 4)).cell? ((⟨w3.heap.size, 0, none⟩ : Addr).add j) = some u) := cells_new w3 [.bool false] 4
      have H1 : Hid (∀ u ∈ [Value.bool false], u.oneCell' = true) := by
        intro u hu
        simp only [List.mem_cons, List.not_mem_nil, or_false] at hu
        subst hu
        rfl
      have HBB : Hid (B ≤ (w3.alloc (.cells #[.bool false] 4)).heap.size) := by
        show B ≤ (w3.alloc _).heap.size
        simp; omega
      have HM : Hid (P.procs.length + 1 ≤ maxLen) := by show _ ≤ _; unfold maxLen; omega
      have HY : Hid ((P.procs.length + 1) * 1 ≤ 140737488355328) := by show _ ≤ _; omega
      have HH : Hid ((w3.alloc (.cells #[.bool false] 4)).heap.size = w3.heap.size + 1) := by
        show (w3.alloc _).heap.size = _
        simp
      have HC : Hid (∀ w', (w3.alloc (.cells #[.bool false] 4)).grownBy w' (Value.slice ao2 P.procs.length cap2).ownBlock → w'.cell? ⟨hb, 10, none⟩ = some (.slice ao2 P.procs.length cap2) ∧ w'.frozen? ⟨hb, 10, none⟩ = false) := by
        intro w' hg
        have hc := grown_chg HO.out hg
        have hbk := hc.at (hm3.below HB2.out).blk (by decide)
        obtain ⟨k1, k2⟩ := nb_facts hbk
        refine ⟨?_, k2 10⟩
        rw [k1 10, ← hlen, ← hwlen, ← e1]
        rfl
      have HP : Hid (∀ w' x, w'.ownsRow B 4 1 x (P.procs.length + 1) (went.map Value.bool ++ [.bool false]) → (w3.alloc (.cells #[.bool false] 4)).grownBy w' (Value.slice ao2 P.procs.length cap2).ownBlock →
          KMem (w'.setCell ⟨hb, 10, none⟩ x) B hb { P with pv := y, procs := P.procs ++ [newPP ⟨kd, vl, nd⟩] } x9 x (ops ++ [⟨kd, vl, nd⟩]) (went ++ [false]) ∧ ChgT B [4, 38] w3 (w'.setCell ⟨hb, 10, none⟩ x)) := by
        intro w' x a1 a2
        rw [← hlen, ← hwlen] at a1 a2
        rw [← e1] at a2
        exact hm3.pushWent HB2.out false a1 a2
      clear e1
      obtain ⟨i1, hi, hz0, hz1, hz2⟩ := info_parts Try.info4
      go_wp2_with (at_builtin; go_must (refine wpList_append_lies _ rfl (.tmp 51) (.tmp 52) 36 rfl B 4 i1 _ 1 1 Try.underlying36 hi hz0 hz1 hz2 rfl (by decide) _ _ _ rfl HO.out ⟨w3.heap.size, 0, none⟩ 1 1 [.bool false] rfl rfl HN.out H1.out (by decide) HM.out HY.out HBB.out (w3.heap.size + 1) HH.out ?_))
      intro g cp w4 ho4 hg4 _ _
      obtain ⟨cc1, cc2⟩ := HC.out _ hg4
      have hfin := HP.out _ _ ho4 hg4
      obtain ⟨hm4, hc4⟩ := hfin
      have nx4 := hc4.at nx3 (by decide)
      have c04 : (w4.setCell ⟨hb, 10, none⟩ (.slice (some ⟨g, 0, none⟩) (P.procs.length + 1) cp)).cell? ⟨hb, 0, none⟩ = some (.pointer (some ⟨P.tb, 0, none⟩)) := by rw [(nb_facts hm4.blk).1 0]; rfl
      have l4 := cell_lt c04
      have lx4 := (Array.getElem?_eq_some_iff.1 nx4).1
      obtain ⟨z1, _⟩ := nb_facts nx4
      have hpc := fun W (hw : Below _ _ W) => pproc_c (hm4.prog.below (w' := W) hw) P.procs.length
      have hpv : pprocV { P with pv := y, procs := P.procs ++ [newPP ⟨kd, vl, nd⟩] } P.procs.length = .tuple #[.agg #[I (newPP ⟨kd, vl, nd⟩).phase, I 1, I 0], I 0] := by
        unfold pprocV
        rw [if_pos ⟨by omega, by simp; omega⟩]
        simp [newPP]
      rw [hpv] at hpc
      have hways : ((decide (kd = 3) || decide (kd = 4)) = false ∧ (newPP ⟨kd, vl, nd⟩).phase = 0) ∨ ((decide (kd = 3) || decide (kd = 4)) = true ∧ (nd == 1) = true ∧ (newPP ⟨kd, vl, nd⟩).phase = 15) ∨ ((decide (kd = 3) || decide (kd = 4)) = true ∧ (nd == 1) = false ∧ (newPP ⟨kd, vl, nd⟩).phase = 0) := by
        unfold newPP isChange
        by_cases e1 : (decide (kd = 3) || decide (kd = 4)) = true
        · by_cases e2 : nd = 1
          · right; left
            refine ⟨e1, by simp [e2], ?_⟩
            simp only
            rw [if_pos ⟨e1, e2⟩]
          · right; right
            refine ⟨e1, by simp [e2], ?_⟩
            simp only
            rw [if_neg fun h => e2 h.2]
        · left
          refine ⟨by simpa using e1, ?_⟩
          simp only
          rw [if_neg fun h => e1 h.1]
      have hcg := fun W => changer_c kd W
      replace hpc : Hid _ := hpc
      replace hcg : Hid _ := hcg
      have HM4 : Hid _ := hm4
      have HC4 : Hid _ := hc4
      have CC1 : Hid _ := c04
      clear HP HC HH HY HM HBB H1 HN HO HB2 hi hz0 hz1 hz2 d10 y1 q1 q2 q3 hm3 nx3 hg4 ho4 hpv hm4 hc4
      have HFIN : Hid (∀ W, Below (w4.setCell ⟨hb, 10, none⟩ (.slice (some ⟨g, 0, none⟩) (P.procs.length + 1) cp)).heap.size (w4.setCell ⟨hb, 10, none⟩ (.slice (some ⟨g, 0, none⟩) (P.procs.length + 1) cp)) W → (∃ y, KRep W B hb { P with pv := y, procs := P.procs ++ [newPP ⟨kd, vl, nd⟩] } (ops ++ [⟨kd, vl, nd⟩]) (went ++ [false])) ∧ ChgT B [78, 119, 33, 4, 38] w W) := by
        intro W hw
        have hmW := HM4.out.below hw
        refine ⟨⟨y, ⟨_, _, hmW.blk, hmW.rop, hmW.rwe⟩, hmW.hB, hmW.prog, by simp [hlen], by simp [hwlen]⟩, ?_⟩
        exact (((hc2.mono (Nat.le_refl _) (by simp)).trans (hc3.mono (Nat.le_refl _) (by simp))).trans (HC4.out.mono (Nat.le_refl _) (by simp))).trans (ChgT.of_below hw)
      have NX4 : Hid _ := nx4
      clear HM4 HC4 hc2 hc3
      have HWS : Hid _ := hways
      clear hways
      generalize (newPP ⟨kd, vl, nd⟩).phase = f0 at *
      generalize (decide (kd = 3) || decide (kd = 4)) = cb at *
      go_wp2_with fail
      refine Calls.mono (hpc.out _ (Below.refl _ _)) ?_
      rintro e w5 ⟨rfl, hb5⟩
      have nx5 := (hb5.block _ lx4).trans NX4.out
      obtain ⟨z5, _⟩ := nb_facts nx5
      have l5 := (Array.getElem?_eq_some_iff.1 nx5).1
      have HB5 : Hid _ := hb5
      clear hb5 hpc z1 nx4 NX4 cc1 cc2 g2 c04 CC1 l4 lx4
      go_wp2_with fail
      refine Calls.mono (hcg.out _) ?_
      rintro e w6 ⟨rfl, rfl⟩
      clear hcg
      rcases HWS.out with ⟨rfl, rfl⟩ | ⟨rfl, bn, rfl⟩ | ⟨rfl, bn, rfl⟩
      · go_wp2
        go_ret
        exact ⟨rfl, HFIN.out _ (HB5.out.alloc HB5.out.size _)⟩
      · go_wp2
        go_ret
        exact ⟨rfl, HFIN.out _ (HB5.out.alloc HB5.out.size _)⟩
      · go_wp2
        go_ret
        exact ⟨rfl, HFIN.out _ (HB5.out.alloc HB5.out.size _)⟩

end Go.Proofs.Ytjnmpejcegmkhaa
