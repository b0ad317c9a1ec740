/- Spawn of a hand, and the blocks beside what it has begun; steps of a hand, one after another. No statement of the seat is proved here. The contract of package prismkeep's single. No statement of the seat is proved here. The contract of package prismkeep's ended. No statement of the seat is proved here. The contract of package prismkeep's value: in a pool it answers true. No statement of the seat is proved here. The contract of package prismkeep's values: in a pool it answers true. No statement of the seat is proved here. The contract of package prismkeep's carries. No statement of the seat is proved here. Contracts of package prismkeep's begin. No statement of the seat is proved here. Arguments of the statements of package prismkeep, opened. No statement of the seat is proved here. -/
import Derived.Test.YtjnmpejcegmkhabNew0
import Derived.Test.YtjnmpejcegmkhabCl6
import Derived.Test.YtjnmpejcegmkhabKeep10
import Derived.Test.YtjnmpejcegmkhabCl1
import Derived.Deep.DeepCutAuto
import Derived.Deep.QuietTactic
import Derived.BigQuiet
import Derived.Laws.AppendOwnNone
import Derived.Test.YtjnmpejcegmkhabRefStA
import Derived.Test.YtjnmpejcegmkhabCInv
import Derived.Test.YtjnmpejcegmkhabRows
import Derived.WalkKit
import Derived.ProofKit
import Derived.OpenShut
import Derived.Carry
import Derived.Lib.SmallJoins
import Derived.Deep.Slices
namespace Go.Proofs.Ytjnmpejcegmkhab
open Go.RowKit

/-- Block k holds an operation, and is none of what hand hb has begun. -/
def Free (w : World) (hb k : Nat) (cs : Array Value) : Prop := w.heap[k]? = some (.cells cs 51 (0, 0)) ∧ ∀ ov, w.cell? ⟨hb, 9, none⟩ = some ov → ov.ownBlock ≠ some k

set_option maxHeartbeats 8000000 in
set_option maxRecDepth 100000 in
theorem kspawn_ok2 {w : World} {B hb : Nat} {P : PLay} {ops : List Op3} {went : List Bool} (h : KRep w B hb P ops went) (hB : B ≤ w.heap.size) (kd vl nd : Int) (hd0 : 0 ≤ P.c.depth) (hd4 : P.c.depth ≤ 4) (he : refusalK P ⟨kd, vl, nd⟩ = 0) (hn : P.procs.length < 256)
    (hs : ∀ W, PRep W B P → B ≤ W.heap.size → Calls Try.prog 49 #[.pointer (some ⟨P.tb, 0, none⟩), .agg #[I kd, I vl, I nd]] W fun x w' => x = .returned (.tuple #[I P.procs.length, I 0]) ∧ (∃ y, PRep w' B { P with pv := y, procs := P.procs ++ [newPP ⟨kd, vl, nd⟩] }) ∧ ChgT B [81, 101] W w') :
    Calls Try.prog 28 #[.pointer (some ⟨hb, 0, none⟩), .agg #[I kd, I vl, I nd]] w fun e w' => e = .returned (.bool true) ∧ (∃ y, KRep w' B hb { P with pv := y, procs := P.procs ++ [newPP ⟨kd, vl, nd⟩] } (ops ++ [⟨kd, vl, nd⟩]) (went ++ [false])) ∧ ChgT B [81, 101, 51, 4, 41] w w' ∧ ∀ k cs, Free w hb k cs → Free w' hb k cs := by
  have hr := fun W (hw : Below w.heap.size w W) => krefusal_c (h.below hw) kd vl nd hd0 hd4
  rw [he] at hr
  have hsp := fun W (hw : Below w.heap.size w W) => hs W (h.prog.below hw) (Nat.le_trans hB hw.size)
  obtain ⟨ov, wv, hm⟩ := h.mem
  have hlen := h.len
  have hwlen := h.wlen
  have HC9 : Hid (w.cell? ⟨hb, 9, none⟩ = some ov) := by show _ = _; rw [(nb_facts hm.blk).1 9]; rfl
  have HOV : Hid (∀ k, ov.ownBlock = some k → k < w.heap.size) := fun k hk' => (hm.rop.lt k hk').2
  have HT : Hid (∀ W, Below w.heap.size w W → W.cell? ⟨hb, 0, none⟩ = some (.pointer (some ⟨P.tb, 0, none⟩))) := fun W hw => (h.below hw).t
  have l0 := cell_lt h.t
  have hba : Below w.heap.size w (w.alloc (.cells #[I kd, I vl, I nd] 51)) := (Below.refl _ _).alloc (Nat.le_refl _) _
  have noa : (w.alloc (.cells #[I kd, I vl, I nd] 51)).heap[w.heap.size]? = some (.cells #[I kd, I vl, I nd] 51 (0, 0)) := nb_alloc _ _ _
  replace hr : Hid _ := hr
  replace hsp : Hid _ := hsp
  clear h hs he
  go_enter Try.func28, Try.ntmps28
  go_wp2_with fail
  refine Calls.mono (hr.out _ hba) ?_
  rintro e w1 ⟨rfl, hb1⟩
  have hb2 : Below w.heap.size w w1 := hba.trans (hb1.mono (by simp))
  have nx : w1.heap[w.heap.size]? = some (.cells #[I kd, I vl, I nd] 51 (0, 0)) := (hb1.block _ (by simp)).trans noa
  obtain ⟨x1, _⟩ := nb_facts nx
  have l1 := (Array.getElem?_eq_some_iff.1 nx).1
  have c0 := HT.out w1 hb2
  clear hb1 hr hba noa
  go_wp2_with fail
  go_cut [6, 7] (fun s6 s7 wx => s6 = I P.procs.length ∧ s7 = I 0 ∧ (∃ y, KMem wx B hb { P with pv := y, procs := P.procs ++ [newPP ⟨kd, vl, nd⟩] } ov wv ops went) ∧ wx.heap[w.heap.size]? = some (.cells #[I kd, I vl, I nd] 51 (0, 0)) ∧ ChgT B [81, 101] w wx)
  case first =>
    go_region_with (go_at_call 49; refine (hsp.out _ (by first | exact hb2.drew | exact (hb2.alloc hb2.size _).drew)).mono ?_; rintro e w2 ⟨rfl, ⟨y, hpr⟩, hc2⟩)
    all_goals
      go_wp2_with fail
      go_meet
      exact ⟨rfl, rfl, ⟨y, (hm.below hb2.drew).spawned hc2 hpr⟩, hc2.at nx (by decide), (ChgT.of_below hb2.drew).trans hc2⟩
  case rest =>
    obtain ⟨rfl, rfl, ⟨y, hm2⟩, nx2, hc2⟩ := hcut
    clear hsp HT hm x1 c0 nx hb2 l1
    generalize wc = w2 at *
    obtain ⟨y1, _⟩ := nb_facts nx2
    have l2 := (Array.getElem?_eq_some_iff.1 nx2).1
    obtain ⟨g1, g2⟩ := nb_facts hm2.blk
    have d9 : w2.cell? ⟨hb, 9, none⟩ = some ov := by rw [g1 9]; rfl
    obtain ⟨ao, cap, e1, q1, q2, q3, _⟩ := ownsRow_cells hm2.rop
    rw [e1, hlen] at d9
    have lh := cell_lt d9
    unfold maxLen at q2 q3
    have hne : hb ≠ w.heap.size := by omega
    have hBc : B ≤ w2.heap.size := Nat.le_trans hB hc2.size
    clear g1
    have HB2 : Hid (Below w2.heap.size w2 ((w2.alloc (.cells #[I kd, I vl, I nd] 51)).drew)) := ((Below.refl _ _).alloc (Nat.le_refl _) _).drew
    have HO : Hid (((w2.alloc (.cells #[I kd, I vl, I nd] 51)).drew).ownsRow B 51 3 (.slice ao P.procs.length cap) P.procs.length (ops.flatMap opCells)) := by
      have := ownsRow_below hm2.rop HB2.out (Nat.le_refl _)
      rw [e1, hlen] at this
      exact this
    have HN : Hid (∀ j u, [I kd, I vl, I nd][j]? = some u → ((w2.alloc (.cells #[I kd, I vl, I nd] 51)).drew).cell? ((⟨w2.heap.size, 0, none⟩ : Addr).add j) = some u) := cells_new w2 [I kd, I vl, I nd] 51
    have H1 : Hid (∀ u ∈ [I kd, I vl, I nd], u.oneCell' = true) := by
      intro u hu
      simp only [List.mem_cons, List.not_mem_nil, or_false] at hu
      rcases hu with h | h | h <;> subst h <;> rfl
    have HBB : Hid (B ≤ ((w2.alloc (.cells #[I kd, I vl, I nd] 51)).drew).heap.size) := by
      show B ≤ (w2.alloc _).heap.size
      simp; omega
    have HM : Hid (P.procs.length + 1 ≤ maxLen) := by show _ ≤ _; unfold maxLen; omega
    have HY : Hid ((P.procs.length + 1) * 24 ≤ 140737488355328) := by show _ ≤ _; omega
    have HH : Hid (((w2.alloc (.cells #[I kd, I vl, I nd] 51)).drew).heap.size = w2.heap.size + 1) := by
      show (w2.alloc _).heap.size = _
      simp
    have HC : Hid (∀ w', ((w2.alloc (.cells #[I kd, I vl, I nd] 51)).drew).grownBy w' (Value.slice ao P.procs.length cap).ownBlock → w'.cell? ⟨hb, 9, none⟩ = some (.slice ao P.procs.length cap) ∧ w'.frozen? ⟨hb, 9, none⟩ = false) := by
      intro w' hg
      have hc := grown_chg HO.out hg
      have hbk := hc.at (hm2.below HB2.out).blk (by decide)
      obtain ⟨k1, k2⟩ := nb_facts hbk
      refine ⟨?_, k2 9⟩
      rw [k1 9, ← hlen, ← e1]
      rfl
    have HP : Hid (∀ w' x, w'.ownsRow B 51 3 x (P.procs.length + 1) (ops.flatMap opCells ++ [I kd, I vl, I nd]) → ((w2.alloc (.cells #[I kd, I vl, I nd] 51)).drew).grownBy w' (Value.slice ao P.procs.length cap).ownBlock →
        KMem (w'.setCell ⟨hb, 9, none⟩ x) B hb { P with pv := y, procs := P.procs ++ [newPP ⟨kd, vl, nd⟩] } x wv (ops ++ [⟨kd, vl, nd⟩]) went ∧ ChgT B [51, 41] w2 (w'.setCell ⟨hb, 9, none⟩ x) ∧ (w'.setCell ⟨hb, 9, none⟩ x).heap[w.heap.size]? = some (.cells #[I kd, I vl, I nd] 51 (0, 0)) ∧
        ∀ k cs, w2.heap[k]? = some (.cells cs 51 (0, 0)) → ov.ownBlock ≠ some k → (w'.setCell ⟨hb, 9, none⟩ x).heap[k]? = some (.cells cs 51 (0, 0))) := by
      intro w' x a1 a2
      rw [← hlen] at a1 a2
      rw [← e1] at a2
      obtain ⟨b1, b2⟩ := hm2.pushOp HB2.out ⟨kd, vl, nd⟩ a1 a2
      refine ⟨b1, b2, ?_, fun k cs hk hne => ?_⟩
      · rw [Below.heap_setCell _ _ _ _ (by show w.heap.size ≠ hb; omega), a2.block w.heap.size (by show w.heap.size < (w2.alloc _).heap.size; simp; omega) (fun e => by have := HOV.out _ e.symm; omega), HB2.out.block _ l2]
        exact nx2
      · have lk := (Array.getElem?_eq_some_iff.1 hk).1
        have hkb : k ≠ hb := by
          rintro rfl
          rw [hm2.blk] at hk
          simp only [Option.some.injEq, Obj.cells.injEq] at hk
          exact absurd hk.2.1 (by decide)
        rw [Below.heap_setCell _ _ _ _ hkb, a2.block k (by show k < (w2.alloc _).heap.size; simp; omega) (fun e => hne e.symm), HB2.out.block _ lk]
        exact hk
    have HLI : Hid (∀ g, ((Value.slice ao P.procs.length cap).ownBlock = some g ∨ g = w2.heap.size + 1) → ov.ownBlock = some g ∨ g = w2.heap.size + 1) := by
      intro g h
      rw [e1, hlen]
      exact h
    clear e1
    obtain ⟨i0, hi, hz0, hz1, hz2⟩ := info_parts Try.info51
    go_wp2_with fail
    go_cut [] (fun wx => ∃ x, KMem wx B hb { P with pv := y, procs := P.procs ++ [newPP ⟨kd, vl, nd⟩] } x wv (ops ++ [⟨kd, vl, nd⟩]) went ∧ ChgT B [51, 41] w2 wx ∧ wx.heap[w.heap.size]? = some (.cells #[I kd, I vl, I nd] 51 (0, 0)) ∧ Hid (∀ k cs, w2.heap[k]? = some (.cells cs 51 (0, 0)) → ov.ownBlock ≠ some k → wx.heap[k]? = some (.cells cs 51 (0, 0)) ∧ x.ownBlock ≠ some k))
    case first =>
      go_region_law (refine step_append_lies _ rfl (.tmp 41) (.tmp 43) 38 rfl B 51 i0 _ 3 24 Try.underlying38 hi hz0 hz1 hz2 rfl (by decide) _ _ _ rfl HO.out ⟨w2.heap.size, 0, none⟩ 1 1 [I kd, I vl, I nd] rfl rfl HN.out H1.out (by decide) HM.out HY.out HBB.out (w2.heap.size + 1) HH.out ?_; intro g cp w4 ho4 hg4 hli _; obtain ⟨cc1, cc2⟩ := HC.out _ hg4; have hfin := HP.out _ _ ho4 hg4; replace hfin : Hid _ := hfin; replace hli : Hid _ := hli; clear hg4 ho4)
      all_goals
        go_wp2_with fail
        go_meet
        refine ⟨_, hfin.out.1, hfin.out.2.1, hfin.out.2.2.1, fun k cs hk hne => ⟨hfin.out.2.2.2 k cs hk hne, fun e => ?_⟩⟩
        have lk := (Array.getElem?_eq_some_iff.1 hk).1
        have eg : g = k := by simpa [Value.ownBlock] using e
        rcases HLI.out g hli.out with x | x
        · rw [eg] at x; exact hne x
        · omega
    case rest =>
      obtain ⟨x9, hm3, hc3, nx3, hfr⟩ := hcut
      generalize wc = w3 at *
      have HF3 : Hid (∀ k cs, Free w hb k cs → w3.heap[k]? = some (.cells cs 51 (0, 0)) ∧ x9.ownBlock ≠ some k) := fun k cs hf => hfr.out k cs (hc2.at hf.1 (by decide)) (hf.2 ov HC9.out)
      clear hfr HLI
      clear HP HC HH HY HM HBB H1 HN HO HB2 hi hz0 hz1 hz2 d9 g2 y1 q1 q2 q3 hm2 nx2
      have l3 := (Array.getElem?_eq_some_iff.1 nx3).1
      obtain ⟨y1, _⟩ := nb_facts nx3
      obtain ⟨g1, g2⟩ := nb_facts hm3.blk
      have d10 : w3.cell? ⟨hb, 10, none⟩ = some wv := by rw [g1 10]; rfl
      obtain ⟨ao2, cap2, e1, q1, q2, q3, _⟩ := ownsRow_cells hm3.rwe
      rw [e1, hwlen, hlen] at d10
      have lh3 := cell_lt d10
      unfold maxLen at q2 q3
      have hBc3 : B ≤ w3.heap.size := Nat.le_trans hBc hc3.size
      clear g1
      have HB2 : Hid (Below w3.heap.size w3 (w3.alloc (.cells #[.bool false] 4))) := (Below.refl _ _).alloc (Nat.le_refl _) _
      have HO : Hid ((w3.alloc (.cells #[.bool false] 4)).ownsRow B 4 1 (.slice ao2 P.procs.length cap2) P.procs.length (went.map Value.bool)) := by
        have := ownsRow_below hm3.rwe HB2.out (Nat.le_refl _)
        rw [e1, hwlen, hlen] at this
        exact this
      have HN : Hid (∀ j u, [Value.bool false][j]? = some u → (w3.alloc (.cells #[.bool false] 4)).cell? ((⟨w3.heap.size, 0, none⟩ : Addr).add j) = some u) := cells_new w3 [.bool false] 4
      have H1 : Hid (∀ u ∈ [Value.bool false], u.oneCell' = true) := by
        intro u hu
        simp only [List.mem_cons, List.not_mem_nil, or_false] at hu
        subst hu
        rfl
      have HBB : Hid (B ≤ (w3.alloc (.cells #[.bool false] 4)).heap.size) := by
        show B ≤ (w3.alloc _).heap.size
        simp; omega
      have HM : Hid (P.procs.length + 1 ≤ maxLen) := by show _ ≤ _; unfold maxLen; omega
      have HY : Hid ((P.procs.length + 1) * 1 ≤ 140737488355328) := by show _ ≤ _; omega
      have HH : Hid ((w3.alloc (.cells #[.bool false] 4)).heap.size = w3.heap.size + 1) := by
        show (w3.alloc _).heap.size = _
        simp
      have HC : Hid (∀ w', (w3.alloc (.cells #[.bool false] 4)).grownBy w' (Value.slice ao2 P.procs.length cap2).ownBlock → w'.cell? ⟨hb, 10, none⟩ = some (.slice ao2 P.procs.length cap2) ∧ w'.frozen? ⟨hb, 10, none⟩ = false) := by
        intro w' hg
        have hc := grown_chg HO.out hg
        have hbk := hc.at (hm3.below HB2.out).blk (by decide)
        obtain ⟨k1, k2⟩ := nb_facts hbk
        refine ⟨?_, k2 10⟩
        rw [k1 10, ← hlen, ← hwlen, ← e1]
        rfl
      have HP : Hid (∀ w' x, w'.ownsRow B 4 1 x (P.procs.length + 1) (went.map Value.bool ++ [.bool false]) → (w3.alloc (.cells #[.bool false] 4)).grownBy w' (Value.slice ao2 P.procs.length cap2).ownBlock →
          KMem (w'.setCell ⟨hb, 10, none⟩ x) B hb { P with pv := y, procs := P.procs ++ [newPP ⟨kd, vl, nd⟩] } x9 x (ops ++ [⟨kd, vl, nd⟩]) (went ++ [false]) ∧ ChgT B [4, 41] w3 (w'.setCell ⟨hb, 10, none⟩ x)) := by
        intro w' x a1 a2
        rw [← hlen, ← hwlen] at a1 a2
        rw [← e1] at a2
        exact hm3.pushWent HB2.out false a1 a2
      clear e1
      obtain ⟨i1, hi, hz0, hz1, hz2⟩ := info_parts Try.info4
      go_wp2_with (at_builtin; go_must (refine wpList_append_lies _ rfl (.tmp 51) (.tmp 52) 39 rfl B 4 i1 _ 1 1 Try.underlying39 hi hz0 hz1 hz2 rfl (by decide) _ _ _ rfl HO.out ⟨w3.heap.size, 0, none⟩ 1 1 [.bool false] rfl rfl HN.out H1.out (by decide) HM.out HY.out HBB.out (w3.heap.size + 1) HH.out ?_))
      intro g cp w4 ho4 hg4 _ _
      obtain ⟨cc1, cc2⟩ := HC.out _ hg4
      have hfin := HP.out _ _ ho4 hg4
      obtain ⟨hm4, hc4⟩ := hfin
      have nx4 := hc4.at nx3 (by decide)
      have c04 : (w4.setCell ⟨hb, 10, none⟩ (.slice (some ⟨g, 0, none⟩) (P.procs.length + 1) cp)).cell? ⟨hb, 0, none⟩ = some (.pointer (some ⟨P.tb, 0, none⟩)) := by rw [(nb_facts hm4.blk).1 0]; rfl
      have l4 := cell_lt c04
      have lx4 := (Array.getElem?_eq_some_iff.1 nx4).1
      obtain ⟨z1, _⟩ := nb_facts nx4
      have hpc := fun W (hw : Below _ _ W) => pproc_c (hm4.prog.below (w' := W) hw) P.procs.length
      have hpv : pprocV { P with pv := y, procs := P.procs ++ [newPP ⟨kd, vl, nd⟩] } P.procs.length = .tuple #[.agg #[I (newPP ⟨kd, vl, nd⟩).phase, I 1, I 0], I 0] := by
        unfold pprocV
        rw [if_pos ⟨by omega, by simp; omega⟩]
        simp [newPP]
      rw [hpv] at hpc
      have hways : ((decide (kd = 3) || decide (kd = 4)) = false ∧ (newPP ⟨kd, vl, nd⟩).phase = 0) ∨ ((decide (kd = 3) || decide (kd = 4)) = true ∧ (nd == 1) = true ∧ (newPP ⟨kd, vl, nd⟩).phase = 15) ∨ ((decide (kd = 3) || decide (kd = 4)) = true ∧ (nd == 1) = false ∧ (newPP ⟨kd, vl, nd⟩).phase = 0) := by
        unfold newPP isChange
        by_cases e1 : (decide (kd = 3) || decide (kd = 4)) = true
        · by_cases e2 : nd = 1
          · right; left
            refine ⟨e1, by simp [e2], ?_⟩
            simp only
            rw [if_pos ⟨e1, e2⟩]
          · right; right
            refine ⟨e1, by simp [e2], ?_⟩
            simp only
            rw [if_neg fun h => e2 h.2]
        · left
          refine ⟨by simpa using e1, ?_⟩
          simp only
          rw [if_neg fun h => e1 h.1]
      have hcg := fun W => changer_c kd W
      replace hpc : Hid _ := hpc
      replace hcg : Hid _ := hcg
      have HM4 : Hid _ := hm4
      have HC4 : Hid _ := hc4
      have CC1 : Hid _ := c04
      clear HP HC HH HY HM HBB H1 HN HO HB2 hi hz0 hz1 hz2 d10 y1 q1 q2 q3 hm3 nx3 hg4 ho4 hpv hm4 hc4
      have HFIN : Hid (∀ W, Below (w4.setCell ⟨hb, 10, none⟩ (.slice (some ⟨g, 0, none⟩) (P.procs.length + 1) cp)).heap.size (w4.setCell ⟨hb, 10, none⟩ (.slice (some ⟨g, 0, none⟩) (P.procs.length + 1) cp)) W → (∃ y, KRep W B hb { P with pv := y, procs := P.procs ++ [newPP ⟨kd, vl, nd⟩] } (ops ++ [⟨kd, vl, nd⟩]) (went ++ [false])) ∧ ChgT B [81, 101, 51, 4, 41] w W ∧ ∀ k cs, Free w hb k cs → Free W hb k cs) := by
        intro W hw
        have hmW := HM4.out.below hw
        refine ⟨⟨y, ⟨_, _, hmW.blk, hmW.rop, hmW.rwe⟩, hmW.hB, hmW.prog, by simp [hlen], by simp [hwlen]⟩, ?_, fun k cs hf => ?_⟩
        case refine_2 =>
          obtain ⟨f1, f2⟩ := HF3.out k cs hf
          have f3 := HC4.out.at f1 (by decide)
          refine ⟨(hw.block k (Array.getElem?_eq_some_iff.1 f3).1).trans f3, fun ov' h9 => ?_⟩
          have h9' : W.cell? ⟨hb, 9, none⟩ = some x9 := by rw [(nb_facts hmW.blk).1 9]; rfl
          rw [h9'] at h9
          simp only [Option.some.injEq] at h9
          rw [← h9]
          exact f2
        exact (((hc2.mono (Nat.le_refl _) (by simp)).trans (hc3.mono (Nat.le_refl _) (by simp))).trans (HC4.out.mono (Nat.le_refl _) (by simp))).trans (ChgT.of_below hw)
      have NX4 : Hid _ := nx4
      clear HM4 HC4 hc2 hc3 HF3
      have HWS : Hid _ := hways
      clear hways
      generalize (newPP ⟨kd, vl, nd⟩).phase = f0 at *
      generalize (decide (kd = 3) || decide (kd = 4)) = cb at *
      go_wp2_with fail
      refine Calls.mono (hpc.out _ (Below.refl _ _)) ?_
      rintro e w5 ⟨rfl, hb5⟩
      have nx5 := (hb5.block _ lx4).trans NX4.out
      obtain ⟨z5, _⟩ := nb_facts nx5
      have l5 := (Array.getElem?_eq_some_iff.1 nx5).1
      have HB5 : Hid _ := hb5
      clear hb5 hpc z1 nx4 NX4 cc1 cc2 g2 c04 CC1 l4 lx4
      go_wp2_with fail
      refine Calls.mono (hcg.out _) ?_
      rintro e w6 ⟨rfl, rfl⟩
      clear hcg
      rcases HWS.out with ⟨rfl, rfl⟩ | ⟨rfl, bn, rfl⟩ | ⟨rfl, bn, rfl⟩
      · go_wp2
        go_ret
        exact ⟨rfl, HFIN.out _ (HB5.out.alloc HB5.out.size _)⟩
      · go_wp2
        go_ret
        exact ⟨rfl, HFIN.out _ (HB5.out.alloc HB5.out.size _)⟩
      · go_wp2
        go_ret
        exact ⟨rfl, HFIN.out _ (HB5.out.alloc HB5.out.size _)⟩

theorem hspawn2_c {w : World} {B hb : Nat} {c : Conf} {S : Gh} {P : PLay} (h : KSt w B hb c S P) (o : Op3) (hok : okOp c o ∧ S.L.procs.length < 256 ∧ (liveL S.L.procs : Int) < c.procs) :
    Calls Try.prog 28 #[.pointer (some ⟨hb, 0, none⟩), opV o] w fun e w' => e = .returned (.bool true) ∧ (∃ P', KSt w' B hb c (gspawn c S o) P') ∧ ChgT B KT w w' ∧ ∀ k cs, Free w hb k cs → Free w' hb k cs := by
  obtain ⟨d0, d4⟩ := h.deep
  have lvP : pliveL P.procs = liveL S.L.procs := plive_w h.rel.rel
  have hpl := h.rel.plen
  have cP := h.rel.rel.cP
  unfold opV
  · have okP : okOp P.c o := by rw [cP]; exact hok.1
    have hn : P.procs.length < 256 := by omega
    have hlv : (pliveL P.procs : Int) < P.c.procs := by rw [lvP, cP]; exact hok.2.2
    have hre : refusalK P ⟨o.kind, o.val, o.node⟩ = 0 := by
      unfold refusalK
      rw [if_neg (by simpa using okP), if_neg (by omega), if_neg (by omega)]
    refine (kspawn_ok2 h.rep h.hB o.kind o.val o.node d0 d4 hre hn (fun W hW hB => pspawn_yes hW hB o okP d0 d4 hn hlv)).mono ?_
    rintro e w' ⟨rfl, ⟨y, hk⟩, hc, hfr⟩
    refine ⟨rfl, ⟨{ P with pv := y, procs := P.procs ++ [newPP ⟨o.kind, o.val, o.node⟩] }, ?_⟩, hc.mono (Nat.le_refl _) (by simp), hfr⟩
    have eg : gspawn c S o = ⟨{ S.L with procs := S.L.procs ++ [(0, newPr o)] }, S.ops ++ [o], S.went ++ [false]⟩ := by unfold gspawn; rw [if_pos hok]
    rw [eg]
    refine ⟨hk, ?_, Nat.le_trans h.hB hc.size, ?_⟩
    · exact h.rel.push o hok.1 0 S.L.pv y hok.2.1 hok.2.2
    · have ho := h.of
      refine ⟨by simp [ho.wlen], ?_, fun i hi h4 h10 => ?_, fun i hi hi' hw => ?_⟩
      · show S.ops ++ [o] = opsL { S.L with procs := S.L.procs ++ [(0, newPr o)] }
        rw [ho.op]
        simp [opsL, toPPs, ppOp, toPP, newPr]
      · simp only [List.length_append, List.length_cons, List.length_nil] at hi
        by_cases e : i < S.L.procs.length
        · simp only [List.getElem_append_left e] at h4 h10 ⊢
          exact ho.slot i e h4 h10
        · have e' : i = S.L.procs.length := by omega
          subst e'
          simp only [List.getElem_append_right (Nat.le_refl _), Nat.sub_self, List.getElem_cons_zero] at h4 h10
          rcases new_phase o with x | x <;> omega
      · simp only [List.length_append, List.length_cons, List.length_nil] at hi hi'
        by_cases e : i < S.L.procs.length
        · have e2 : i < S.went.length := by have := ho.wlen; omega
          simp only [List.getElem_append_left e] at hw ⊢
          rw [List.getElem_append_left e2] at hw
          exact ho.new i e e2 hw
        · have e' : i = S.L.procs.length := by omega
          subst e'
          simp only [List.getElem_append_right (Nat.le_refl _), Nat.sub_self, List.getElem_cons_zero]
          exact ⟨rfl, rfl, rfl⟩

theorem Free.keep {w w' : World} {B hb : Nat} {P : PLay} {ops : List Op3} {went : List Bool} {k : Nat} {cs : Array Value} (hf : Free w hb k cs) (hk : KRep w B hb P ops went) (hc : ChgT B KS w w') : Free w' hb k cs := by
  obtain ⟨ov, wv, hm⟩ := hk.mem
  refine ⟨hc.at hf.1 (by decide), fun ov' h9 => ?_⟩
  have e1 : w.cell? ⟨hb, 9, none⟩ = some ov := by rw [(nb_facts hm.blk).1 9]; rfl
  have e2 : w'.cell? ⟨hb, 9, none⟩ = some ov := by rw [(nb_facts (hc.at hm.blk (by decide))).1 9]; rfl
  rw [e2] at h9
  simp only [Option.some.injEq] at h9
  rw [← h9]
  exact hf.2 ov e1

end Go.Proofs.Ytjnmpejcegmkhab

namespace Go.Proofs.Ytjnmpejcegmkhab
open Go.RowKit

theorem NodesRep.chg {w w' : World} {B b : Nat} {T : List TypeId} {x : Value} {l : List (ND × Value × Value)} (h : NodesRep w b x l) (hc : ChgT B T w w') (h1 : 46 ∉ T) (h2 : 3 ∉ T) : NodesRep w' b x l :=
  ⟨hc.row h.row h1, fun y hy => hc.row (h.waiting y hy) h2, fun y hy => hc.row (h.items y hy) h2⟩

/-- What the caller holds stays: lists of ints, an operation beside the hand. -/
structure Keeps (hb : Nat) (w w' : World) : Prop where
  row : ∀ base lv n xs, w.ownsRow base 3 1 lv n xs → w'.ownsRow base 3 1 lv n xs
  free : ∀ k cs, Free w hb k cs → Free w' hb k cs
theorem Keeps.trans {hb : Nat} {a b d : World} (h : Keeps hb a b) (k : Keeps hb b d) : Keeps hb a d := ⟨fun _ _ _ _ x => k.row _ _ _ _ (h.row _ _ _ _ x), fun _ _ x => k.free _ _ (h.free _ _ x)⟩
theorem Keeps.below {w w' : World} {B hb : Nat} {c : Conf} {S : Gh} {P : PLay} (h : KSt w B hb c S P) (hb' : Below w.heap.size w w') : Keeps hb w w' := by
  obtain ⟨_, _, c9, _⟩ := h.opsAt
  have l9 := cell_lt c9
  refine ⟨fun _ _ _ _ x => ownsRow_below x hb' (Nat.le_refl _), fun k cs x => ?_⟩
  have lk : k < w.heap.size := (Array.getElem?_eq_some_iff.1 x.1).1
  refine ⟨by rw [hb'.block k lk]; exact x.1, fun ov h9 => ?_⟩
  rw [hb'.cell (p := ⟨hb, 9, none⟩) l9] at h9
  exact x.2 ov h9
theorem Keeps.chg {w w' : World} {B hb : Nat} {c : Conf} {S : Gh} {P : PLay} (h : KSt w B hb c S P) (hc : ChgT B KS w w') : Keeps hb w w' :=
  ⟨fun _ _ _ _ x => hc.row x (by decide), fun _ _ x => Free.keep x h.rep hc⟩

theorem free_new {w : World} {B hb : Nat} {c : Conf} {S : Gh} {P : PLay} (h : KSt w B hb c S P) (cs : Array Value) : Free (w.alloc (.cells cs 51)) hb w.heap.size cs := by
  refine ⟨nb_alloc _ _ _, fun ov h9 e => ?_⟩
  obtain ⟨ov', wv, a, b, _⟩ := h.rep.blk
  have e9 : w.cell? ⟨hb, 9, none⟩ = some ov' := by rw [(nb_facts a).1 9]; rfl
  have l9 := cell_lt e9
  have hbz : Below w.heap.size w (w.alloc (.cells cs 51)) := (Below.refl _ _).alloc (Nat.le_refl _) _
  rw [hbz.cell (p := ⟨hb, 9, none⟩) l9, e9] at h9
  have := Option.some.inj h9
  subst this
  have := (b.lt _ e).2
  omega

/-- Behind an operation that was alone. -/
def OneE (W : World) (B hb : Nat) (c : Conf) (L0 : Lay) (o : Op3) : Prop := FinE W B hb c L0 o L0.procs.length

set_option maxHeartbeats 8000000 in
set_option maxRecDepth 100000 in
theorem ksingle_c {w : World} {B hb : Nat} {c : Conf} {S : Gh} {P : PLay} (h : KSt w B hb c S P) {cnt : Nat} {lies : List Int} (q : QOk c S.L cnt lies) (o : Op3) (ho : TurnOk c lies.length o) (h256 : S.L.procs.length < 256) (draw : Int) :
    Calls Try.prog 19 #[.pointer (some ⟨hb, 0, none⟩), .agg #[I o.kind, I o.val, I o.node], I draw, I cnt] w fun e w' => e = .returned (.bool true) ∧ OneE w' B hb c S.L o ∧ Keeps hb w w' ∧ Below B w w' := by
  obtain ⟨hok, hn0, k0, k4, hput, hget⟩ := ho
  have hN : c.kind = 1 → 0 ≤ sumP (fun p => sgn p.kind) S.L.procs + sgn o.kind ∧ sumP (fun p => sgn p.kind) S.L.procs + sgn o.kind ≤ c.slots * 2 ^ c.depth.toNat := by
    intro k1
    obtain ⟨a, b⟩ := q.sum h.rel k1
    rw [a]
    have hkk : o.kind = 0 ∨ o.kind = 1 ∨ o.kind = 2 ∨ o.kind = 3 ∨ o.kind = 4 := by omega
    unfold okOp at hok
    have s1 : sgn 1 = 1 := by decide
    have s2 : sgn 2 = -1 := by decide
    have s3 : sgn 3 = 0 := by decide
    have s4 : sgn 4 = 0 := by decide
    rcases hkk with e | e | e | e | e
    · omega
    · rw [e, s1]; have := hput e; omega
    · rw [e, s2]; have := hget e; omega
    · rw [e, s3]; omega
    · rw [e, s4]; omega
  have hlive : (liveL S.L.procs : Int) < c.procs := by
    have hz : liveL S.L.procs = 0 := by
      have := plive_w h.rel.rel
      have hp : pliveL P.procs = 0 := by
        have key : ∀ l : List PP, (∀ i, (hi : i < l.length) → (l[i]).phase = 20) → pliveL l = 0 := by
          intro l
          induction l with
          | nil => intro _; rfl
          | cons p r ih =>
            intro hl
            have h0 := hl 0 (by simp)
            simp only [List.getElem_cons_zero] at h0
            have := ih fun i hi => by
              have := hl (i + 1) (by simpa using hi)
              simpa using this
            simp [pliveL, h0, this]
        refine key _ fun i hi => ?_
        have e := h.rel.rel.procs
        have hi' : i < S.L.procs.length := by rw [e] at hi; simpa using hi
        simp only [e, List.getElem_map]
        exact q.idle i hi'
      omega
    have hm := h.rel.rel.may
    have : 1 ≤ c.procs := by simp [mayC] at hm; omega
    omega
  have hgs : okOp c o ∧ S.L.procs.length < 256 ∧ (liveL S.L.procs : Int) < c.procs := ⟨hok, h256, hlive⟩
  have esp : gspawn c S o = ⟨{ S.L with procs := S.L.procs ++ [(0, newPr o)] }, S.ops ++ [o], S.went ++ [false]⟩ := by
    unfold gspawn
    exact if_pos hgs
  have hba : Below w.heap.size w (w.alloc (.cells #[I o.kind, I o.val, I o.node] 51)) := (Below.refl _ _).alloc (Nat.le_refl _) _
  have hst1 := h.below hba
  have hfree := free_new h #[I o.kind, I o.val, I o.node]
  have hk1 := Keeps.below h hba
  obtain ⟨ao9, cap9, c9, q1, q2, q3⟩ := hst1.opsAt
  have c0 := hst1.rep.t
  have l0 := cell_lt c9
  have hnd := hst1.nodes (Below.refl _ _)
  replace hnd : Hid _ := hnd
  have HB0 : Hid (B ≤ w.heap.size) := h.hB
  have HIDX : Hid (o.kind = 3 ∨ o.kind = 4 → 1 ≤ o.node ∧ o.node < ((2 ^ c.depth.toNat : Nat) : Int)) := by
    intro e
    unfold okOp at hok
    omega
  unfold maxLen at q3
  go_enter Try.func19, Try.ntmps19
  go_wp2_with fail
  refine Calls.mono hnd.out ?_
  rintro e w2 ⟨xb, lb, rfl, hrb, elb, hb2⟩
  have hst2 := hst1.below hb2
  have hkA := Keeps.below hst1 hb2
  have hfree2 := hkA.free _ _ hfree
  have hk2 : Keeps hb w w2 := hk1.trans hkA
  obtain ⟨x2, _⟩ := nb_facts hfree2.1
  have lx2 : w.heap.size < w2.heap.size := (Array.getElem?_eq_some_iff.1 hfree2.1).1
  have hsp := hspawn2_c hst2 o hgs
  have HRB : Hid (NodesRep w2 (w.alloc (.cells #[I o.kind, I o.val, I o.node] 51)).heap.size xb lb) := hrb
  have HBW2 : Hid (Below B w w2) := (hba.mono h.hB).trans (hb2.mono (Nat.le_trans h.hB hba.size))
  have HFR2 : Hid (Free w2 hb w.heap.size #[I o.kind, I o.val, I o.node]) := hfree2
  have HS2 : Hid (KSt w2 B hb c S P) := hst2
  unfold opV at hsp
  replace hsp : Hid _ := hsp
  have hxb : ∃ ab cb, xb = .slice ab lb.length cb ∧ lb.length ≤ cb ∧ lb.length ≤ maxLen ∧ cb ≤ maxLen := by
    obtain ⟨ab, cb, e1, e2, e3, e4, _⟩ := ownsRow_cells hrb.row
    exact ⟨ab, cb, e1, e2, e3, e4⟩
  obtain ⟨ab, cb, exb, yb1, yb2, yb3⟩ := hxb
  subst exb
  unfold maxLen at yb2 yb3
  have HELB : Hid (lb.map (fun y => y.1) = rnodes S.L) := elb
  clear hnd hrb elb hst1 hst2 hkA hfree2 hfree hk1 hb2 c0 c9 l0
  go_wp2_with fail
  refine Calls.mono hsp.out ?_
  rintro e w3 ⟨rfl, ⟨P3, hst3⟩, hc3, hf3⟩
  rw [esp] at hst3
  have hk3 : Keeps hb w2 w3 := ⟨fun _ _ _ _ x => hc3.row x (by decide), hf3⟩
  have hfs : FinS w3 B hb c S.L o S.L.procs.length 0 := by
    have hone : OneI c S.L o { S.L with procs := S.L.procs ++ [(0, newPr o)] } S.L.procs.length := OneI.start h.rel q.ao q.idle
    have hi3 : S.L.procs.length < (S.L.procs ++ [(0, newPr o)]).length := by simp
    refine ⟨_, P3, hst3, hone, hi3, Or.inr ?_⟩
    have := (phi_up2 hst3.rel hone.ao.x.pat hi3).2
    simpa using this
  have hfi := kfinish_c hfs hn0 hN draw
  have HRB3 : Hid (NodesRep w3 (w.alloc (.cells #[I o.kind, I o.val, I o.node] 51)).heap.size (.slice ab lb.length cb) lb) := HRB.out.chg hc3 (by decide) (by decide)
  have HBW3 : Hid (Below B w w3) := HBW2.out.trans (hc3.below (Nat.le_trans HB0.out HBW2.out.size))
  have HFR3 : Hid (Free w3 hb w.heap.size #[I o.kind, I o.val, I o.node]) := hf3 _ _ HFR2.out
  have HK3 : Hid (Keeps hb w w3) := hk2.trans hk3
  have HS3 : Hid (KSt w3 B hb c ⟨{ S.L with procs := S.L.procs ++ [(0, newPr o)] }, S.ops ++ [o], S.went ++ [false]⟩ P3) := hst3
  replace hfi : Hid _ := hfi
  clear hsp hst3 hc3 hf3 hk3 hk2 hfs HRB HBW2 HFR2 x2 lx2 HS2
  go_wp2_with fail
  refine Calls.mono hfi.out ?_
  rintro e w4 ⟨rfl, hfe, hc4⟩
  have HFE : Hid (FinE w4 B hb c S.L o S.L.procs.length) := hfe
  obtain ⟨S4, P4, hst4, x4, hi4, h20⟩ := hfe
  have HK4 : Hid (Keeps hb w w4) := HK3.out.trans (Keeps.chg HS3.out hc4)
  have HRB4 : Hid (NodesRep w4 (w.alloc (.cells #[I o.kind, I o.val, I o.node] 51)).heap.size (.slice ab lb.length cb) lb) := HRB3.out.chg hc4 (by decide) (by decide)
  have HBW4 : Hid (Below B w w4) := HBW3.out.trans (hc4.below (Nat.le_trans HB0.out HBW3.out.size))
  have HFR4 : Hid (Free w4 hb w.heap.size #[I o.kind, I o.val, I o.node]) := Free.keep HFR3.out HS3.out.rep hc4
  have hat := hst4.at (Below.refl _ _) S.L.procs.length hi4
  have hv0 : c.kind = 0 → o.kind = 0 → (S4.L.procs[S.L.procs.length]).2.val = (cnt : Int) := fun a b => one_inc q hst4.rel a x4 hi4 h20 b
  have hv1 : o.kind = 1 → (S4.L.procs[S.L.procs.length]).2.val = 0 := fun a => by have := x4.put a; rw [pr_at hi4] at this; exact this
  have hv3 : 3 ≤ o.kind → (S4.L.procs[S.L.procs.length]).2.val = endV S.L o.kind o.node.toNat ∧ (((S4.L.procs[S.L.procs.length]).2.val = 1 ∧ formH (S4.L.hist o.node.toNat) = if o.kind = 4 then 1 else 2) ∨ ((S4.L.procs[S.L.procs.length]).2.val ≠ 1 ∧ ∀ u, S4.L.hist u = S.L.hist u)) := by
    intro a
    have hx := x4.chg a
    have hop := x4.op
    unfold ChI at hx
    rw [pr_at hi4] at hx hop
    rw [hop.1] at hx
    rcases hx with ⟨y, _⟩ | ⟨_, y, z⟩
    · omega
    · exact ⟨y, z⟩
  have hpast := x4.past
  generalize (S4.L.procs[S.L.procs.length]).2.phase = ph at *
  generalize (S4.L.procs[S.L.procs.length]).2.node = nd' at *
  generalize (S4.L.procs[S.L.procs.length]).2.val = vl at *
  replace hat : Hid _ := hat
  have HV0 : Hid _ := hv0
  have HV1 : Hid _ := hv1
  have HV3 : Hid _ := hv3
  have HS4 : Hid (KSt w4 B hb c S4 P4) := hst4
  have HPA : Hid _ := hpast
  clear hfi hc4 hst4 x4 HRB3 HBW3 HFR3 HK3 HS3 hv0 hv1 hv3 hpast h20
  go_wp2_with fail
  refine Calls.mono hat.out ?_
  rintro e w5 ⟨rfl, hb5⟩
  have hb5' : Below w4.heap.size w4 (w5.alloc (.cells #[I ph, I nd', I vl] 48)) := hb5.alloc hb5.size _
  have hst5 := HS4.out.below hb5'
  have c0 := hst5.rep.t
  have lc0 := cell_lt c0
  have hnd := hst5.nodes (Below.refl _ _)
  replace hnd : Hid _ := hnd
  have HB5 : Hid (Below w4.heap.size w4 (w5.alloc (.cells #[I ph, I nd', I vl] 48))) := hb5'
  have nbx := nb_alloc w5 #[I ph, I nd', I vl] 48
  have HS5 : Hid (KSt (w5.alloc (.cells #[I ph, I nd', I vl] 48)) B hb c S4 P4) := hst5
  have HNBX : Hid _ := nbx
  clear hat hb5 hb5' hst5 nbx
  go_wp2_with fail
  refine Calls.mono hnd.out ?_
  rintro e w6 ⟨xa, la, rfl, hra, ela, hb6⟩
  have hst6 := HS5.out.below hb6
  have hsc := hst6.shaped hra ela
  obtain ⟨aa, ca, exa, ya1, ya2, ya3, _⟩ := ownsRow_cells hra.row
  subst exa
  unfold maxLen at ya2 ya3
  replace hsc : Hid _ := hsc
  have HRA : Hid (NodesRep w6 (w5.alloc (.cells #[I ph, I nd', I vl] 48)).heap.size (.slice aa la.length ca) la) := hra
  have HELA : Hid (la.map (fun y => y.1) = rnodes S4.L) := ela
  have HB6 : Hid (Below (w5.alloc (.cells #[I ph, I nd', I vl] 48)).heap.size (w5.alloc (.cells #[I ph, I nd', I vl] 48)) w6) := hb6
  have HS6 : Hid (KSt w6 B hb c S4 P4) := hst6
  clear hnd hst6 hra ela hb6 c0 lc0
  go_wp2_with fail
  refine Calls.mono hsc.out ?_
  rintro e w7 ⟨rfl, hb7⟩
  have HB47 : Hid (Below w4.heap.size w4 w7) := HB5.out.trans ((HB6.out.mono HB5.out.size).trans (hb7.mono (Nat.le_trans HB5.out.size HB6.out.size)))
  have hfr7 := (Keeps.below HS4.out HB47.out).free _ _ HFR4.out
  obtain ⟨o7, _⟩ := nb_facts hfr7.1
  have lo7 : w.heap.size < w7.heap.size := (Array.getElem?_eq_some_iff.1 hfr7.1).1
  have hpx : w7.heap[w5.heap.size]? = some (.cells #[I ph, I nd', I vl] 48 (0, 0)) := by
    have l1 : w5.heap.size < (w5.alloc (.cells #[I ph, I nd', I vl] 48)).heap.size := by simp
    rw [hb7.block _ (Nat.lt_of_lt_of_le l1 HB6.out.size), HB6.out.block _ l1]
    exact HNBX.out
  obtain ⟨p7, _⟩ := nb_facts hpx
  have lp7 : w5.heap.size < w7.heap.size := (Array.getElem?_eq_some_iff.1 hpx).1
  have HPOST : Hid (∀ W, Below w7.heap.size w7 W → OneE W B hb c S.L o ∧ Keeps hb w W ∧ Below B w W) := by
    intro W hW
    have h4W : Below w4.heap.size w4 W := HB47.out.trans (hW.mono HB47.out.size)
    refine ⟨?_, HK4.out.trans (Keeps.below HS4.out h4W), HBW4.out.trans (h4W.mono (Nat.le_trans HB0.out HBW4.out.size))⟩
    obtain ⟨S', P', a, r⟩ := HFE.out
    exact ⟨S', P', a.below h4W, r⟩
  have HRA7 : Hid (NodesRep w7 (w5.alloc (.cells #[I ph, I nd', I vl] 48)).heap.size (.slice aa la.length ca) la) := HRA.out.below hb7 (Nat.le_refl _)
  have HRB7 : Hid (NodesRep w7 (w.alloc (.cells #[I o.kind, I o.val, I o.node] 51)).heap.size (.slice ab lb.length cb) lb) := HRB4.out.below HB47.out (Nat.le_refl _)
  have HREL : Hid (CRel c S.L P) := h.rel
  have HREL4 : Hid (CRel c S4.L P4) := HS4.out.rel
  clear hsc hb7 hfr7 hpx HRA HRB4 HB5 HB6 HB47 HS6 HS5 HFR4 HFE HK4 HBW4 HNBX h q hgs esp HB0 hba hN hlive
  have hkk : o.kind = 0 ∨ o.kind = 1 ∨ o.kind = 2 ∨ o.kind = 3 ∨ o.kind = 4 := by omega
  have HOK : Hid _ := hok
  obtain ⟨kd, ov, nd⟩ := o
  simp only at *
  rcases hkk with rfl | rfl | rfl | k34
  · have ev : vl = (cnt : Int) := HV0.out (by have := HOK.out; unfold okOp at this; simp at this; exact this) rfl
    have be : (vl == (cnt : Int)) = true := by rw [beq_iff_eq]; exact ev
    have hp := HPOST.out _ (Below.refl _ _)
    clear HOK HV0 HV1 HV3
    go_wp2_with fail
    go_ret
    exact ⟨rfl, hp⟩
  · have ev : vl = 0 := HV1.out rfl
    have be : (vl == 0) = true := by rw [beq_iff_eq]; exact ev
    have hp := HPOST.out _ (Below.refl _ _)
    clear HOK HV0 HV1 HV3
    go_wp2_with fail
    go_ret
    exact ⟨rfl, hp⟩
  · have hp := HPOST.out _ (Below.refl _ _)
    clear HOK HV0 HV1 HV3
    go_wp2_with fail
    go_ret
    exact ⟨rfl, hp⟩
  · obtain ⟨n1, n2⟩ := HIDX.out k34
    obtain ⟨m, rfl⟩ : ∃ m : Nat, nd = (m : Int) := ⟨nd.toNat, by omega⟩
    have hv := HV3.out (by omega)
    rw [Int.toNat_natCast] at hv
    have b0 : (kd == 0) = false := by rw [beq_eq_false_iff_ne]; omega
    have b1 : (kd == 1) = false := by rw [beq_eq_false_iff_ne]; omega
    have b2 : (kd == 2) = false := by rw [beq_eq_false_iff_ne]; omega
    have hfi := find_c HRA7.out (m : Int)
    have hfa := find_at HRA7.out HELA.out m
    have hen := kending_c HREL.out HRB7.out HELB.out kd ov m (by omega) (by omega) k34
    obtain ⟨ev, hvr⟩ := hv
    rw [← ev] at hen
    have hll : la.length = (rnodes S4.L).length := by rw [← HELA.out]; simp
    have hlb : lb.length = (rnodes S.L).length := by rw [← HELB.out]; simp
    have HLEN : Hid ((∀ u, S4.L.hist u = S.L.hist u) → la.length = lb.length) := by
      intro hh
      rw [hll, hlb]
      show (rnodesTo S4.L S4.L.past.length).length = (rnodesTo S.L S.L.past.length).length
      rw [rnodes_len, rnodes_len, HPA.out]
      congr 1
      funext u
      rw [hh u]
    have hR4 := HREL4.out
    have hform : m < S4.L.past.length → 1 ≤ m → formH (S4.L.hist m) = 1 ∨ formH (S4.L.hist m) = 2 ∨ formH (S4.L.hist m) = 3 := fun a b => (hR4.rel.nodes m b a).form
    have hmN : m < S4.L.past.length := by
      rw [hR4.rel.len, Nat.pow_succ]
      omega
    replace hfi : Hid _ := hfi
    replace hen : Hid _ := hen
    have c5 : w7.cell? ⟨w5.heap.size, 2, none⟩ = some (I vl) := by rw [p7 2]; rfl
    have co0 : w7.cell? ⟨w.heap.size, 0, none⟩ = some (I kd) := by rw [o7 0]; rfl
    clear HOK HV0 HV1 HV3 HREL HREL4 HRB7 hll hlb hR4 ev
    go_wp2_with fail
    refine Calls.mono hfi.out ?_
    rintro e w8 ⟨rfl, rfl⟩
    go_wp2_with fail
    refine Calls.mono hen.out ?_
    rintro e w9 ⟨rfl, hb9⟩
    have hp := HPOST.out _ hb9
    have c9 := (hb9.cell (p := ⟨w5.heap.size, 2, none⟩) lp7).trans c5
    have l9 := cell_lt c9
    have d0 := (hb9.cell (p := ⟨w.heap.size, 0, none⟩) lo7).trans co0
    have ld0 := cell_lt d0
    have bne' : (vl != vl) = false := by simp
    rcases hvr with ⟨v1, vf⟩ | ⟨vn, vh⟩
    · rcases hfa with ⟨_, na⟩ | ⟨k, g, hkl, a, ea, lg, cg, _⟩
      · exfalso
        refine na ⟨hmN, by omega, ?_⟩
        rw [vf]
        split <;> decide
      · have ea' := ea _ _ _ rfl
        subst ea'
        rw [a]
        have cg9 := (hb9.cell (p := ⟨g, k * 12 + 3, none⟩) lg).trans cg
        have lg9 := cell_lt cg9
        subst v1
        have bk : decide ((0 : Int) ≤ (k : Int)) = true := decide_eq_true (by omega)
        clear ea hfi hen HLEN hform cg c5 co0
        rcases k34 with rfl | rfl
        · have vf2 : formH (S4.L.hist m) = 2 := by rw [vf]; rfl
          rw [vf2] at cg9
          clear vf vf2
          go_wp2_with fail
          go_quiet (fail)
          have hp2 := HPOST.out _ (Below.drewN' hb9 nq)
          go_wp2_with fail
          go_ret
          exact ⟨rfl, hp2⟩
        · have vf2 : formH (S4.L.hist m) = 1 := by rw [vf]; rfl
          rw [vf2] at cg9
          clear vf vf2
          go_wp2_with fail
          go_quiet (fail)
          have hp2 := HPOST.out _ (Below.drewN' hb9 nq)
          go_wp2_with fail
          go_ret
          exact ⟨rfl, hp2⟩
    · have bv : (vl == 1) = false := by rw [beq_eq_false_iff_ne]; exact vn
      have hl := HLEN.out vh
      have bl : ((la.length : Int) == (lb.length : Int)) = true := by rw [beq_iff_eq]; omega
      have bl2 : (la.length == lb.length) = true := by rw [beq_iff_eq]; exact hl
      clear hfi hen HPOST HLEN hform c5 co0 hfa hl vh
      go_wp2_with fail
      go_ret
      exact ⟨rfl, hp⟩

end Go.Proofs.Ytjnmpejcegmkhab

namespace Go.Proofs.Ytjnmpejcegmkhab
open Go.RowKit

end Go.Proofs.Ytjnmpejcegmkhab

namespace Go.Proofs.Ytjnmpejcegmkhab
open Go.RowKit

end Go.Proofs.Ytjnmpejcegmkhab

namespace Go.Proofs.Ytjnmpejcegmkhab
open Go.RowKit

theorem lies_len (l : List ND) (h : ∀ d ∈ l, d.items.length ≤ 10000) : (liesL l).length ≤ l.length * 10000 := by
  induction l with
  | nil => simp [liesL]
  | cons d r ih =>
    have h0 := h d (by simp)
    have := ih fun y hy => h y (by simp [hy])
    unfold liesL at this ⊢
    simp only [List.flatMap_cons, List.length_append, List.length_cons]
    omega
theorem rnodes_items {c : Conf} {L : Lay} {P : PLay} (h : CRel c L P) : ∀ d ∈ rnodes L, d.items.length ≤ 10000 := by
  intro d hd
  obtain ⟨v, hv, hi, rfl⟩ := (rnodes_mem L _ d).1 hd
  have hv0 : v ≠ 0 := hi.1
  have hf3 : formH (L.hist v) ≠ 3 := hi.2
  have hN := h.rel.lenle
  have hn := h.rel.nodes v (by omega) hv
  have hf := hn.form
  have hf2 : formH (L.hist v) = 1 ∨ formH (L.hist v) = 2 := by omega
  rcases hf2 with f | f
  · simp [rnode, f]
  · have hit := ((hn.leaf f).2.2.2).vals h.rel.confs.1
    have hz := h.rel.isz v (by omega) (by omega)
    have hp := pvals_le (P.nodes.getD v zeroPN).items
    simp only [rnode, f]
    rw [if_neg (by decide)]
    simp only [hit]
    omega
theorem lies_snoc (l : List ND) (k : Nat) (hk : k < l.length) : liesL (l.take (k + 1)) = liesL (l.take k) ++ (l[k]).items := by
  unfold liesL
  rw [List.take_add_one, List.getElem?_eq_getElem hk, List.flatMap_append]
  simp

end Go.Proofs.Ytjnmpejcegmkhab

namespace Go.Proofs.Ytjnmpejcegmkhab
open Go.RowKit

def eraT (k x : Int) (l : List Int) : List Int := if k = 2 then l.erase x else l
def goneB (k x : Int) (l : List Int) : Bool := decide (k ≠ 2) || decide (x ∈ l)
theorem era_hit {k x y : Int} {l : List Int} (hg : goneB k x l = false) (he : y = x) : eraT k x (l ++ [y]) = eraT k x l ∧ goneB k x (l ++ [y]) = true := by
  unfold goneB at hg ⊢
  simp only [Bool.or_eq_false_iff, decide_eq_false_iff_not, Decidable.not_not] at hg
  subst he
  unfold eraT
  rw [if_pos hg.1, if_pos hg.1, List.erase_append, if_neg hg.2, List.erase_of_not_mem hg.2]
  simp
theorem era_go {k x y : Int} {l : List Int} (hg : ¬ (goneB k x l = false ∧ y = x)) : eraT k x (l ++ [y]) = eraT k x l ++ [y] ∧ goneB k x (l ++ [y]) = goneB k x l := by
  by_cases k2 : k = 2
  · subst k2
    unfold eraT
    rw [if_pos rfl, if_pos rfl]
    by_cases hm : x ∈ l
    · rw [List.erase_append, if_pos hm]
      refine ⟨rfl, ?_⟩
      unfold goneB
      simp [hm]
    · have hne : y ≠ x := fun e => hg ⟨by unfold goneB; simp [hm], e⟩
      rw [List.erase_append, if_neg hm, List.erase_of_not_mem hm]
      refine ⟨by rw [List.erase_of_not_mem (by simp; exact fun e => hne e.symm)], ?_⟩
      unfold goneB
      have : ¬ x = y := fun e => hne e.symm
      simp [hm, this]
  · unfold eraT goneB
    rw [if_neg k2, if_neg k2]
    simp [k2]

/-- What carries has laid by, of the first of what lay. -/
def mustTo (o : Op3) (x : Int) (l : List Int) : List Int := (if o.kind = 1 then [o.val] else []) ++ eraT o.kind x l
theorem mustTo_all (o : Op3) (x : Int) (l : List Int) : mustTo o x l = mustL o x l := rfl
theorem mustTo_len (o : Op3) (x : Int) (l : List Int) : (mustTo o x l).length ≤ l.length + 1 := by
  unfold mustTo eraT
  have := List.length_erase_le (a := x) (l := l)
  split <;> split <;> simp <;> omega

set_option maxHeartbeats 8000000 in
set_option maxRecDepth 100000 in
theorem kcarries_c {w : World} {B hb : Nat} {c : Conf} {S : Gh} {P : PLay} (h : KSt w B hb c S P) (o : Op3) (lies : List Int) (base : Nat) (lv : Value) (hlv : w.ownsRow base 3 1 lv lies.length (lies.map I)) (hl : lies.length ≤ 1000) (i : Nat) (hi : i < S.L.procs.length) (hlast : S.L.procs.length = i + 1)
    (hmem : o.kind = 2 → (S.L.procs[i]).2.val ∈ lies) (hcount : ∀ y, (mustL o (S.L.procs[i]).2.val lies).count y = (liesL (rnodes S.L)).count y) :
    Calls Try.prog 20 #[.pointer (some ⟨hb, 0, none⟩), .agg #[I o.kind, I o.val, I o.node], lv] w fun e w' => (∃ mv base', e = .returned (.tuple #[mv, .bool true]) ∧ w'.ownsRow base' 3 1 mv (mustL o (S.L.procs[i]).2.val lies).length ((mustL o (S.L.procs[i]).2.val lies).map I)) ∧ Below w.heap.size w w' := by
  have hba : Below w.heap.size w (w.alloc (.cells #[I o.kind, I o.val, I o.node] 51)) := (Below.refl _ _).alloc (Nat.le_refl _) _
  have hst1 := h.below hba
  have hat := h.at hba i hi
  obtain ⟨ao9, cap9, c9, q1, q2, q3⟩ := hst1.opsAt
  have l0 := cell_lt c9
  have nb0 := nb_alloc w #[I o.kind, I o.val, I o.node] 51
  have HNB : Hid ((w.alloc (.cells #[I o.kind, I o.val, I o.node] 51)).heap[w.heap.size]? = some (.cells #[I o.kind, I o.val, I o.node] 51 (0, 0))) := nb0
  have hlen : (mustL o (S.L.procs[i]).2.val lies).length = (liesL (rnodes S.L)).length := (List.perm_iff_count.2 hcount).length_eq
  have hgone : goneB o.kind (S.L.procs[i]).2.val lies = true := by
    unfold goneB
    by_cases k2 : o.kind = 2
    · simp [hmem k2]
    · simp [k2]
  have HST : Hid (KSt w B hb c S P) := h
  have HCNT : Hid _ := hcount
  obtain ⟨al, cl, elv, r1, r2, r3, HC⟩ := row_cells hlv
  subst elv
  have HLC : Hid _ := HC
  have HGONE : Hid _ := hgone
  have HLEN : Hid _ := hlen
  generalize (S.L.procs[i]).2.phase = ph at *
  generalize (S.L.procs[i]).2.node = nd at *
  generalize (S.L.procs[i]).2.val = vl at *
  rw [hlast] at c9 q1 q2
  replace hat : Hid _ := hat
  unfold maxLen at q3 r2
  obtain ⟨i0, hi', hz0, hz1, hz2⟩ := info_parts Try.info3
  clear h hst1 nb0 hmem hcount hlen hgone HC hlv
  obtain ⟨kd, ov, on⟩ := o
  simp only at *
  go_enter Try.func20, Try.ntmps20
  go_wp2_with fail
  refine Calls.mono hat.out ?_
  rintro e w2 ⟨rfl, hb2⟩
  have hb3 : Below w.heap.size w (w2.alloc (.cells #[I ph, I nd, I vl] 48)) := (hba.trans (hb2.mono hba.size)).alloc (Nat.le_trans hba.size hb2.size) _
  have lk2 : w.heap.size < w2.heap.size := by have := hb2.size; simp at this; omega
  have hbo : Below (w.alloc (.cells #[I kd, I ov, I on] 51)).heap.size (w.alloc (.cells #[I kd, I ov, I on] 51)) (w2.alloc (.cells #[I ph, I nd, I vl] 48)) := hb2.alloc hb2.size _
  have nbo : (w2.alloc (.cells #[I ph, I nd, I vl] 48)).heap[w.heap.size]? = some (.cells #[I kd, I ov, I on] 51 (0, 0)) := by
    rw [hbo.block _ (by simp)]
    exact HNB.out
  have nbx := nb_alloc w2 #[I ph, I nd, I vl] 48
  obtain ⟨o3, _⟩ := nb_facts nbo
  obtain ⟨x3, _⟩ := nb_facts nbx
  have co0 : (w2.alloc (.cells #[I ph, I nd, I vl] 48)).cell? ⟨w.heap.size, 0, none⟩ = some (I kd) := by rw [o3 0]; rfl
  have co1 : (w2.alloc (.cells #[I ph, I nd, I vl] 48)).cell? ⟨w.heap.size, 1, none⟩ = some (I ov) := by rw [o3 1]; rfl
  have cx2 : (w2.alloc (.cells #[I ph, I nd, I vl] 48)).cell? ⟨w2.heap.size, 2, none⟩ = some (I vl) := by rw [x3 2]; rfl
  have lW : w2.heap.size < (w2.alloc (.cells #[I ph, I nd, I vl] 48)).heap.size := by simp
  clear hat hb2 hbo nbo nbx o3 x3 c9 l0
  go_upto_if 29 with fail

  generalize (w2.alloc (.cells #[I ph, I nd, I vl] 48)) = W3 at *
  go_cut [9] (fun s9 wx => Hid (wx.ownsRow W3.heap.size 3 1 s9 (if kd = 1 then [ov] else []).length ((if kd = 1 then [ov] else []).map I)) ∧ Below W3.heap.size W3 wx)
  case first =>
    by_cases k1 : kd = 1
    · subst k1
      have hnil : W3.ownsRow W3.heap.size 3 1 (.slice none 0 0) 0 [] := World.ownsRow_nil _ _ _ _
      go_wp2_with (at_builtin; go_must (refine wpList_append_own _ rfl _ _ 25 rfl W3.heap.size 3 i0 (.int .i64 0) 1 8 Try.underlying25 hi' hz0 hz1 hz2 rfl (by decide) _ _ _ rfl (hnil.alloc _) ⟨W3.heap.size, 0, none⟩ 1 1 [I ov] rfl rfl ?c1 ?c2 ?c3 ?c4 ?c5 ?_))
      case c2 => rfl
      case c3 => unfold maxLen; omega
      · intro x' w5 hown' hgrow _
        have hb5 : Below W3.heap.size W3 w5 := ((Below.refl _ _).alloc (Nat.le_refl _) _).grown hgrow (by simp) (by intro j hj; simp [Value.ownBlock] at hj)
        go_wp2_with fail
        go_meet
        exact ⟨by show World.ownsRow _ _ _ _ _ _ _; simpa using hown', hb5⟩
    · have bk : (kd == 1) = false := by rw [beq_eq_false_iff_ne]; exact k1
      go_wp2_with fail
      go_meet
      refine ⟨?_, Below.refl _ _⟩
      show World.ownsRow _ _ _ _ _ _ _
      rw [if_neg k1]
      exact World.ownsRow_nil _ _ _ _
  case rest =>
    obtain ⟨hown0, hbW⟩ := hcut
    generalize wc = wa at *
    have co0' := (hbW.cell (p := ⟨w.heap.size, 0, none⟩) (show w.heap.size < W3.heap.size by omega)).trans co0
    have cx2' := (hbW.cell (p := ⟨w2.heap.size, 2, none⟩) lW).trans cx2
    have lA : w2.heap.size < wa.heap.size := Nat.lt_of_lt_of_le lW hbW.size
    clear co0 co1
    go_wp2_with fail
    go_loopw [9, 10, 11] (fun mm gg ii wr => ∃ k : Nat, k ≤ lies.length ∧ ii = .int .i64 k ∧ gg = .bool (goneB kd vl (lies.take k)) ∧ wr.ownsRow W3.heap.size 3 1 mm (mustTo ⟨kd, ov, on⟩ vl (lies.take k)).length ((mustTo ⟨kd, ov, on⟩ vl (lies.take k)).map I) ∧ Below W3.heap.size W3 wr) (fun _ _ ii _ => lies.length - (intOf ii).toNat)
    case atStart =>
      refine ⟨0, Nat.zero_le _, rfl, ?_, ?_, hbW⟩
      · unfold goneB
        by_cases k2 : kd = 2
        · subst k2
          simp
        · simp [k2]
      · have e0 : mustTo ⟨kd, ov, on⟩ vl (lies.take 0) = if kd = 1 then [ov] else [] := by
          unfold mustTo eraT
          simp
        rw [e0]
        exact hown0.out
    case round =>
      obtain ⟨k, hk, rfl, rfl, hown, hbr⟩ := hrel
      have hbz : Below w.heap.size w wr := hb3.trans (hbr.mono hb3.size)
      by_cases hlt : k < lies.length
      · have bk : decide ((k : Int) < (lies.length : Int)) = true := decide_eq_true (by omega)
        obtain ⟨g, eg, lg, cg⟩ := HLC.out k hlt
        subst eg
        have cg2 := (hbz.cell (p := ⟨g, k, none⟩) lg).trans cg
        have cx3 := (hbr.cell (p := ⟨w2.heap.size, 2, none⟩) lW).trans cx2
        have lx3 := cell_lt cx3
        have lg2 := cell_lt cg2
        have ml := mustTo_len ⟨kd, ov, on⟩ vl (lies.take k)
        have ml2 : (lies.take k).length ≤ 1000 := by rw [List.length_take]; omega
        have HT : Hid (lies.take (k + 1) = lies.take k ++ [lies[k]]) := List.take_succ_eq_append_getElem hlt
        clear cg HLC HGONE HLEN HCNT HNB
        generalize lies[k] = y at *
        generalize lies.take k = tk at *
        have ml3 : (mustTo ⟨kd, ov, on⟩ vl tk).length ≤ 2000 := by omega
        clear ml ml2 lg
        rcases hgb : goneB kd vl tk with _ | _
        · by_cases hy : y = vl
          · have bv : (y == vl) = true := by rw [beq_iff_eq]; exact hy
            have HG : Hid (mustTo ⟨kd, ov, on⟩ vl (tk ++ [y]) = mustTo ⟨kd, ov, on⟩ vl tk ∧ goneB kd vl (tk ++ [y]) = true) := by
              obtain ⟨a1, a2⟩ := era_hit hgb hy
              exact ⟨by unfold mustTo; rw [a1], a2⟩
            have HO : Hid _ := hown
            clear hown hy hgb
            go_wp2_with fail
            go_quiet (fail)
            have hb7 := Below.drewN' hbr nq
            have hown2 : Hid _ := ownsRow_below HO.out (Below.drewN' (Below.refl wr.heap.size wr) nq) (Nat.le_refl _)
            go_wp2_with fail
            go_roundw
            case rel => exact ⟨k + 1, by omega, by go_num, by rw [HT.out, HG.out.2], by rw [HT.out, HG.out.1]; exact hown2.out, hb7⟩
            case measure => simp [intOf]; omega
          · have bv : (y == vl) = false := by rw [beq_eq_false_iff_ne]; exact hy
            have HG : Hid (mustTo ⟨kd, ov, on⟩ vl (tk ++ [y]) = mustTo ⟨kd, ov, on⟩ vl tk ++ [y] ∧ goneB kd vl (tk ++ [y]) = false) := by
              obtain ⟨a1, a2⟩ := era_go (k := kd) (x := vl) (y := y) (l := tk) (fun e => hy e.2)
              exact ⟨by unfold mustTo; rw [a1, List.append_assoc], by rw [a2]; exact hgb⟩
            clear hgb
            generalize tm : mustTo ⟨kd, ov, on⟩ vl tk = mt at *
            go_wp2_with fail
            go_quiet (fail)
            have hb7 := Below.drewN' hbr nq
            have hown2 : (wr.drewN nq).ownsRow W3.heap.size 3 1 u9 mt.length (mt.map I) := ownsRow_below hown (Below.drewN' (Below.refl wr.heap.size wr) nq) (Nat.le_refl _)
            have cg3 : (wr.drewN nq).cell? ⟨g, k, none⟩ = some (I y) := ((Below.drewN' (Below.refl wr.heap.size wr) nq).cell (p := ⟨g, k, none⟩) (cell_lt cg2)).trans cg2
            clear hown cg2 cx3 hbr hbz
            generalize wr.drewN nq = wq at *
            have lg3 := cell_lt cg3
            go_wp2_with (at_builtin; refine wpList_append_own _ rfl _ _ 25 rfl W3.heap.size 3 i0 (.int .i64 0) 1 8 Try.underlying25 hi' hz0 hz1 hz2 rfl (by decide) _ _ _ rfl (hown2.alloc _) ⟨wq.heap.size, 0, none⟩ 1 1 [.int .i64 y] rfl rfl ?d1 ?d2 ?d3 ?d4 ?d5 ?_)
            case d1 => exact cells_new_at wq [I y] 3 wq.heap.size rfl
            case d2 => intro u hu; simp at hu; subst hu; rfl
            case d3 => unfold maxLen; omega
            case d4 => omega
            case d5 => exact Nat.le_trans hb7.size (by simp)
            · intro x' w5 hown' hgrow _
              have hb5 : Below W3.heap.size W3 w5 := (hb7.alloc hb7.size _).grown hgrow (Nat.le_trans hb7.size (by simp)) (fun j hj => (hown2.lt j hj).1)
              have HO3 : Hid _ := hown'
              clear hgrow hown' hown2
              go_wp2_with fail
              go_roundw
              case rel => exact ⟨k + 1, by omega, by go_num, by rw [HT.out, HG.out.2], by rw [HT.out, HG.out.1, List.length_append, List.map_append]; exact HO3.out, hb5⟩
              case measure => simp [intOf]; omega
        · have HG : Hid (mustTo ⟨kd, ov, on⟩ vl (tk ++ [y]) = mustTo ⟨kd, ov, on⟩ vl tk ++ [y] ∧ goneB kd vl (tk ++ [y]) = true) := by
            obtain ⟨a1, a2⟩ := era_go (k := kd) (x := vl) (y := y) (l := tk) (fun e => by rw [hgb] at e; exact absurd e.1 (by decide))
            exact ⟨by unfold mustTo; rw [a1, List.append_assoc], by rw [a2]; exact hgb⟩
          clear hgb
          generalize tm : mustTo ⟨kd, ov, on⟩ vl tk = mt at *
          go_wp2_with fail
          go_quiet (fail)
          have hb7 := Below.drewN' hbr nq
          have hown2 : (wr.drewN nq).ownsRow W3.heap.size 3 1 u9 mt.length (mt.map I) := ownsRow_below hown (Below.drewN' (Below.refl wr.heap.size wr) nq) (Nat.le_refl _)
          have cg3 : (wr.drewN nq).cell? ⟨g, k, none⟩ = some (I y) := ((Below.drewN' (Below.refl wr.heap.size wr) nq).cell (p := ⟨g, k, none⟩) (cell_lt cg2)).trans cg2
          clear hown cg2 cx3 hbr hbz
          generalize wr.drewN nq = wq at *
          have lg3 := cell_lt cg3
          go_wp2_with (at_builtin; refine wpList_append_own _ rfl _ _ 25 rfl W3.heap.size 3 i0 (.int .i64 0) 1 8 Try.underlying25 hi' hz0 hz1 hz2 rfl (by decide) _ _ _ rfl (hown2.alloc _) ⟨wq.heap.size, 0, none⟩ 1 1 [.int .i64 y] rfl rfl ?e1 ?e2 ?e3 ?e4 ?e5 ?_)
          case e1 => exact cells_new_at wq [I y] 3 wq.heap.size rfl
          case e2 => intro u hu; simp at hu; subst hu; rfl
          case e3 => unfold maxLen; omega
          case e4 => omega
          case e5 => exact Nat.le_trans hb7.size (by simp)
          · intro x' w5 hown' hgrow _
            have hb5 : Below W3.heap.size W3 w5 := (hb7.alloc hb7.size _).grown hgrow (Nat.le_trans hb7.size (by simp)) (fun j hj => (hown2.lt j hj).1)
            have HO3 : Hid _ := hown'
            clear hgrow hown' hown2
            go_wp2_with fail
            go_roundw
            case rel => exact ⟨k + 1, by omega, by go_num, by rw [HT.out, HG.out.2], by rw [HT.out, HG.out.1, List.length_append, List.map_append]; exact HO3.out, hb5⟩
            case measure => simp [intOf]; omega
      · have ek : k = lies.length := by omega
        subst ek
        have bk : decide ((lies.length : Int) < (lies.length : Int)) = false := decide_eq_false (by omega)
        rw [List.take_length, mustTo_all] at hown
        rw [List.take_length, HGONE.out]
        have hml : (mustL ⟨kd, ov, on⟩ vl lies).length ≤ 2000 := by have := mustTo_len ⟨kd, ov, on⟩ vl lies; rw [mustTo_all] at this; omega
        clear HGONE HLC HNB cx2' cx2 co0'
        have hnd := HST.out.nodes hbz
        have hlr := HST.out.rel.shaped.len
        have HLE : Hid (∀ k, (liesL ((rnodes S.L).take k)).length ≤ 640000) := by
          intro k
          have h1 := lies_len ((rnodes S.L).take k) fun d hd => rnodes_items HST.out.rel d (List.mem_of_mem_take hd)
          have h2 : ((rnodes S.L).take k).length ≤ 64 := by rw [List.length_take]; omega
          omega
        have c0 := (hbz.cell (p := ⟨hb, 0, none⟩) (cell_lt HST.out.rep.t)).trans HST.out.rep.t
        have l0 := cell_lt c0
        replace hnd : Hid _ := hnd
        generalize hms : mustL ⟨kd, ov, on⟩ vl lies = ms at *
        replace hms : Hid _ := hms
        have HMU : Hid (wr.ownsRow W3.heap.size 3 1 u9 ms.length (ms.map I)) := hown
        obtain ⟨am, cm, rfl, m1, m2, m3, HM⟩ := row_cells hown
        have HMC : Hid _ := HM
        unfold maxLen at m2
        clear HM hown hbW HST hown0
        generalize wr = wm at *
        go_wp2_with fail
        refine Calls.mono hnd.out ?_
        rintro e w4 ⟨xn, l, rfl, hr, el, hb4⟩
        obtain ⟨aa, ca, ex, a1, a2, a3, _⟩ := ownsRow_cells hr.row
        subst ex
        have hll : l.length ≤ 64 := by have := congrArg List.length el; simp at this; omega
        have HEL : Hid (∀ k, (hk : k < l.length) → liesL ((rnodes S.L).take (k + 1)) = liesL ((rnodes S.L).take k) ++ (l[k]).1.items) := by
          intro k hk
          have hl : l.length = (rnodes S.L).length := by rw [← el]; simp
          have hk' : k < (rnodes S.L).length := by omega
          rw [lies_snoc _ k hk']
          congr 2
          have := congrArg (fun z => z[k]?) el
          simp [hk] at this
          rw [List.getElem?_eq_getElem hk'] at this
          exact (Option.some.inj this).symm
        have HALL : Hid (liesL ((rnodes S.L).take l.length) = liesL (rnodes S.L)) := by
          show _ = _
          have hl : l.length = (rnodes S.L).length := by rw [← el]; simp
          rw [hl, List.take_length]
        have HR : Hid (NodesRep w4 wm.heap.size (.slice aa l.length ca) l) := hr
        unfold maxLen at a2 a3
        clear hnd hr el hlr
        generalize rnodes S.L = rn at *
        go_wp2_with fail
        go_loopw [12, 14] (fun xx ii wr => ∃ k : Nat, k ≤ l.length ∧ ii = .int .i64 k ∧ wr.ownsRow w4.heap.size 3 1 xx (liesL (rn.take k)).length ((liesL (rn.take k)).map I) ∧ Below w4.heap.size w4 wr) (fun _ ii _ => l.length - (intOf ii).toNat)
        case atStart => exact ⟨0, Nat.zero_le _, rfl, by simpa [liesL] using World.ownsRow_nil _ _ _ _, Below.refl _ _⟩
        case round =>
          obtain ⟨k, hk, rfl, hown, hbr⟩ := hrel
          by_cases hlt : k < l.length
          · obtain ⟨g, e1, l1, f⟩ := nodes_at (HR.out.below hbr (Nat.le_refl _)) k hlt
            have e3 := e1 _ _ _ rfl
            subst e3
            clear e1
            have hit := (HR.out.below hbr (Nat.le_refl _)).items l[k] (List.getElem_mem _)
            have HS := HEL.out k hlt
            have hle := HLE.out (k + 1)
            rw [HS] at hle
            have bk : decide ((k : Int) < (l.length : Int)) = true := decide_eq_true (by omega)
            have c11 : wr.cell? ⟨g, k * 12 + 11, none⟩ = some (l[k]).2.2 := by rw [f 11 (by omega)]; rfl
            have lg := cell_lt c11
            clear f HEL HLE HALL HMU HMC HLEN HCNT
            generalize l[k] = y at *
            obtain ⟨d, wv, iv⟩ := y
            simp only at *
            have HSS : Hid _ := HS
            clear HS
            have hc := ownsRow_cells hit
            rcases hit.2 with ⟨e0, en⟩ | ⟨gi, cp, cur, hv, _⟩
            · have en2 : d.items = [] := List.eq_nil_of_length_eq_zero en
              subst e0
              clear hc hit
              go_wp2_with (at_builtin; refine wpList_append_own_none rfl _ _ 25 rfl w4.heap.size 3 i0 1 Try.underlying25 hi' _ _ _ rfl hown rfl ?_)
              go_wp2_with fail
              go_roundw
              case rel => exact ⟨k + 1, by omega, by go_num, by rw [HSS.out, en2, List.append_nil]; exact hown, hbr⟩
              case measure => simp [intOf]; omega
            · subst hv
              obtain ⟨_, _, _, _, _, _, HCI⟩ := hc
              clear hit
              go_wp2_with (at_builtin; refine wpList_append_own _ rfl _ _ 25 rfl w4.heap.size 3 i0 (.int .i64 0) 1 8 Try.underlying25 hi' hz0 hz1 hz2 rfl (by decide) _ _ _ rfl hown ⟨gi, 0, none⟩ d.items.length cp (d.items.map I) rfl ?f0 ?f1 ?f2 ?f3 ?f4 ?f5 ?_)
              case f0 => simp
              case f1 =>
                intro j u hj
                obtain ⟨g', e', _, cj⟩ := HCI j u hj
                simp only [Option.some.injEq, Addr.mk.injEq, and_true] at e'
                subst e'
                by_cases j0 : j = 0
                · subst j0
                  exact cj
                · simpa [Addr.add, j0] using cj
              case f2 =>
                intro u hu
                simp only [List.mem_map] at hu
                obtain ⟨a, _, rfl⟩ := hu
                rfl
              case f3 => unfold maxLen; simp only [List.length_append] at hle; omega
              case f4 => simp only [List.length_append] at hle; omega
              case f5 => exact hbr.size
              · intro x' w3 hown' hgrow _
                have hb4 : Below w4.heap.size w4 w3 := hbr.grown hgrow hbr.size (fun j hj => (hown.lt j hj).1)
                have HO3 : Hid _ := hown'
                clear hgrow hown hown' HCI
                go_wp2_with fail
                go_roundw
                case rel => exact ⟨k + 1, by omega, by go_num, by rw [HSS.out, List.length_append, List.map_append]; exact HO3.out, hb4⟩
                case measure => simp [intOf]; omega
          · have ek : k = l.length := by omega
            subst ek
            have bk : decide ((l.length : Int) < (l.length : Int)) = false := decide_eq_false (by omega)
            have hle := HLE.out l.length
            rw [HALL.out] at hown hle
            generalize liesL rn = ls at *
            have hb5 : Below wm.heap.size wm wr := hb4.trans (hbr.mono hb4.size)
            have HM5 : Hid (wr.ownsRow W3.heap.size 3 1 (.slice am ms.length cm) ms.length (ms.map I)) := ownsRow_below HMU.out hb5 (Nat.le_refl _)
            have HMC5 : Hid (∀ j, (hj : j < ms.length) → ∃ g, am = some ⟨g, 0, none⟩ ∧ g < wr.heap.size ∧ wr.cell? ⟨g, j, none⟩ = some (I ms[j])) := by
              intro j hj
              obtain ⟨g, e1, e2, e3⟩ := HMC.out j hj
              exact ⟨g, e1, Nat.lt_of_lt_of_le e2 hb5.size, (hb5.cell (p := ⟨g, j, none⟩) e2).trans e3⟩
            have hbw : Below w.heap.size w wr := hbz.trans (hb5.mono hbz.size)
            obtain ⟨al', cl', rfl, s1, s2, s3, _⟩ := row_cells hown
            have HOW : Hid (wr.ownsRow w4.heap.size 3 1 (.slice al' ls.length cl') ls.length (ls.map I)) := hown
            have HTA : Hid (∀ y, Calls Try.prog 40 #[.slice am ms.length cm, I y] wr fun e w' => e = .returned (I (ms.count y)) ∧ w' = wr) := fun y => ktimes_c (by omega) HM5.out y
            have HTB : Hid (∀ y, Calls Try.prog 40 #[.slice al' ls.length cl', I y] wr fun e w' => e = .returned (I (ms.count y)) ∧ w' = wr) := by
              intro y
              rw [HCNT.out y]
              exact ktimes_c (by omega) HOW.out y
            have elen : ls.length = ms.length := HLEN.out.symm
            unfold maxLen at s2
            clear HEL HLE HALL HR hown hi' hz0 hz1 hz2 hb4 hbr HMC HMU HCNT HLEN HOW hb5
            rw [elen] at HTB s1 s2 ⊢
            have be : ((ms.length : Int) == (ms.length : Int)) = true := by simp
            go_wp2_with fail
            generalize wr = w5 at *
            go_loopw [15, 16, 17, 18] (fun oo qq _ _ wx => oo = .bool true ∧ wx = w5 ∧ ∃ q : Nat, q ≤ ms.length ∧ qq = .int .i64 q) (fun _ qq _ _ _ => ms.length - (intOf qq).toNat)
            case atStart => exact ⟨rfl, rfl, 0, Nat.zero_le _, rfl⟩
            case round =>
              obtain ⟨rfl, rfl, q, hq, rfl⟩ := hrel
              by_cases hq2 : q < ms.length
              · have bq : decide ((q : Int) < (ms.length : Int)) = true := decide_eq_true (by omega)
                obtain ⟨g, rfl, lg, cg⟩ := HMC5.out q hq2
                generalize ms[q] = y at *
                have ta := HTA.out y
                have tb := HTB.out y
                generalize (ms.count y : Int) = cy at ta tb
                have bc : (cy == cy) = true := by simp
                replace ta : Hid _ := ta
                replace tb : Hid _ := tb
                clear HMC5 HTA HTB
                go_wp2_with fail
                refine Calls.mono ta.out ?_
                rintro e w7 ⟨rfl, rfl⟩
                go_wp2_with fail
                refine Calls.mono tb.out ?_
                rintro e w8 ⟨rfl, rfl⟩
                go_wp2_with fail
                go_roundw
                case rel => exact ⟨by first | trivial | rfl, by first | trivial | rfl, q + 1, by omega, by go_num⟩
                case measure => simp [intOf]; omega
              · have bq : decide ((q : Int) < (ms.length : Int)) = false := decide_eq_false (by omega)
                go_wp2_with fail
                go_ret2
                exact ⟨⟨.slice am ms.length cm, W3.heap.size, rfl, by rw [hms.out]; exact HM5.out⟩, hbw⟩

end Go.Proofs.Ytjnmpejcegmkhab

namespace Go.Proofs.Ytjnmpejcegmkhab
open Go.RowKit

theorem PRep.base2 {w : World} {B B' : Nat} {L : PLay} (h : PRep w B L) (hb : B' ≤ B) : PRep w B' L :=
  ⟨h.tree, Nat.le_trans hb h.treeB, h.len, ownsRow_mono h.prow hb, fun v hv => ownsRow_mono (h.items v hv) hb, h.ind⟩

set_option maxHeartbeats 4000000 in
theorem kbegin_no (c : Conf) (w : World) (h : mayC c = false) : Calls Try.prog 7 #[confV c] w fun e w' => e = .returned (.tuple #[.pointer none, .bool true]) ∧ Below w.heap.size w w' := by
  have h1 := fun W => pnew_no c W h
  have h2 := fun W => good_c c W
  rw [h] at h2
  unfold confV at h1 h2 ⊢
  clear h
  replace h1 : Hid _ := h1
  replace h2 : Hid _ := h2
  go_enter Try.func7, Try.ntmps7
  go_wp2_with fail
  refine Calls.mono (h1.out _) ?_
  rintro e w1 ⟨rfl, hb1⟩
  have nb1 : w1.heap[w.heap.size]? = some (.cells #[I c.kind, I c.depth, I c.start, I c.slots, I c.width, I c.spin, I c.drain, I c.procs] 23 (0, 0)) := (hb1.block _ (by simp)).trans (nb_alloc _ _ _)
  have hb2 : Below w.heap.size w w1 := ((Below.refl _ _).alloc (Nat.le_refl _) _).trans (hb1.mono (by simp))
  obtain ⟨f1, _⟩ := nb_facts nb1
  clear hb1 h1
  go_wp2_with fail
  refine Calls.mono (h2.out _) ?_
  rintro e w2 ⟨rfl, hb3⟩
  go_wp2
  go_ret2
  exact ⟨rfl, hb2.trans (hb3.mono hb2.size)⟩

set_option maxHeartbeats 4000000 in
theorem kbegin_yes (c : Conf) (w : World) (h : mayC c = true) : Calls Try.prog 7 #[confV c] w fun e w' => ∃ hb P, e = .returned (.tuple #[.pointer (some ⟨hb, 0, none⟩), .bool true]) ∧ KRep w' w.heap.size hb P [] [] ∧ PNew c P ∧ Below w.heap.size w w' := by
  have h1 := fun W => pnew_yes c W h
  have h2 := fun W => good_c c W
  rw [h] at h2
  unfold confV at h1 h2 ⊢
  clear h
  replace h1 : Hid _ := h1
  replace h2 : Hid _ := h2
  go_enter Try.func7, Try.ntmps7
  go_wp2_with fail
  refine Calls.mono (h1.out _) ?_
  rintro e w1 ⟨P, rfl, hpr, hpn, hb1⟩
  have nb1 : w1.heap[w.heap.size]? = some (.cells #[I c.kind, I c.depth, I c.start, I c.slots, I c.width, I c.spin, I c.drain, I c.procs] 23 (0, 0)) := (hb1.block _ (by simp)).trans (nb_alloc _ _ _)
  have hb2 : Below w.heap.size w w1 := ((Below.refl _ _).alloc (Nat.le_refl _) _).trans (hb1.mono (by simp))
  obtain ⟨f1, _⟩ := nb_facts nb1
  have HPR : Hid _ := hpr
  clear hb1 h1 hpr
  go_wp2_with fail
  refine Calls.mono (h2.out _) ?_
  rintro e w2 ⟨rfl, hb3⟩
  have nb2 := (hb3.block _ (Array.getElem?_eq_some_iff.1 nb1).1).trans nb1
  obtain ⟨g1, _⟩ := nb_facts nb2
  have hb4 := hb2.trans (hb3.mono hb2.size)
  have HP2 : Hid _ := HPR.out.below hb3
  clear f1 hb3 hb2 HPR
  go_wp2_with fail
  go_ret2
  have hcf := hpn.conf
  refine ⟨w2.heap.size, P, rfl, ⟨⟨.slice none 0 0, .slice none 0 0, ?_, World.ownsRow_nil _ _ _ _, World.ownsRow_nil _ _ _ _⟩, hb4.size, ?_, by rw [hpn.procs]; rfl, rfl⟩, hpn, hb4.alloc hb4.size _⟩
  · unfold handCells
    rw [hcf]
    exact nb_alloc _ _ _
  · exact (HP2.out.below ((Below.refl _ _).alloc (Nat.le_refl _) _)).base2 (by simp)

end Go.Proofs.Ytjnmpejcegmkhab

namespace Go.Proofs.Ytjnmpejcegmkhab
open Go.ChangeShapes Go.WideShapes Go.ChangeAt Go.RowKit Go.Joins

theorem ownK2 : ownKnob Try.prog.godebug = none := by kernel_rfl

theorem laidOut2 : laidOutB Try.prog = true := by kernel_rfl

set_option maxRecDepth 100000 in
theorem conf_open2 {H : Type} {enc : TypeId × Value → H} {W : World} {base : Nat} {held : Bool} {sp : Nat → Bool} {v : Value} {d : DataW H} {p : List MemPlace} {r : Reach} {b0 : Nat}
    (hv : Value.okWide Try.prog W r b0 23 v) (h : DataW.Trod enc Try.prog W base sp held 23 v d p) : ∃ c : Conf, v = confV c := by
  obtain ⟨cs, rfl, hsz⟩ := okWide_struct Try.underlying23 hv
  obtain ⟨fuel, hf⟩ := h
  obtain ⟨xs, n, h1, h2, hl, hlen, hf⟩ := DataW.trod_struct Try.underlying23 hf
  have hlen8 : xs.length = 8 := hlen
  have hcs8 : cs.toList.length = 8 := by
    have e8 : Try.prog.cellsOf 23 = 8 := by kernel_rfl
    rw [Array.length_toList, hsz, e8]
  have e1 : Try.prog.cellsOf 3 = 1 := by kernel_rfl
  have key : ∀ i, i < 8 → ∀ f : Field, f.type = 3 → f.offset = i → DataW.trod enc Try.prog W base sp held n f.type ((cs.toList.drop f.offset).take (Try.prog.cellsOf f.type)) = xs[i]? → ∃ a : Int, cs.toList[i]? = some (I a) := by
    intro i hi f ht ho hx
    rw [ht, ho, e1] at hx
    rw [List.getElem?_eq_getElem (by omega : i < xs.length)] at hx
    obtain ⟨a, hc, _⟩ := DataW.trod_int Try.underlying3 hx
    refine ⟨a, ?_⟩
    have := congrArg (fun l => l[0]?) hc
    simpa using this
  obtain ⟨a0, q0⟩ := key 0 (by omega) _ rfl rfl (hf 0 _ rfl)
  obtain ⟨a1, q1⟩ := key 1 (by omega) _ rfl rfl (hf 1 _ rfl)
  obtain ⟨a2, q2⟩ := key 2 (by omega) _ rfl rfl (hf 2 _ rfl)
  obtain ⟨a3, q3⟩ := key 3 (by omega) _ rfl rfl (hf 3 _ rfl)
  obtain ⟨a4, q4⟩ := key 4 (by omega) _ rfl rfl (hf 4 _ rfl)
  obtain ⟨a5, q5⟩ := key 5 (by omega) _ rfl rfl (hf 5 _ rfl)
  obtain ⟨a6, q6⟩ := key 6 (by omega) _ rfl rfl (hf 6 _ rfl)
  obtain ⟨a7, q7⟩ := key 7 (by omega) _ rfl rfl (hf 7 _ rfl)
  refine ⟨⟨a0, a1, a2, a3, a4, a5, a6, a7⟩, ?_⟩
  have el : cs.toList = [I a0, I a1, I a2, I a3, I a4, I a5, I a6, I a7] := by
    apply List.ext_getElem?
    intro i
    by_cases hi : i < 8
    · have : i = 0 ∨ i = 1 ∨ i = 2 ∨ i = 3 ∨ i = 4 ∨ i = 5 ∨ i = 6 ∨ i = 7 := by omega
      rcases this with rfl | rfl | rfl | rfl | rfl | rfl | rfl | rfl
      · exact q0
      · exact q1
      · exact q2
      · exact q3
      · exact q4
      · exact q5
      · exact q6
      · exact q7
    · rw [List.getElem?_eq_none (by omega), List.getElem?_eq_none (by simp; omega)]
  show Value.agg cs = .agg #[I a0, I a1, I a2, I a3, I a4, I a5, I a6, I a7]
  have ec : cs = #[I a0, I a1, I a2, I a3, I a4, I a5, I a6, I a7] := Array.toList_inj.1 el
  rw [ec]

structure ScrAt (w : World) (v : Value) (n : Nat) (l : Nat → Int × Int × Int) : Prop where
  form : ∃ ao cap, v = .slice ao n cap ∧ n ≤ cap ∧ n ≤ maxLen ∧ ∀ i, i < n → ∃ b off, ao = some ⟨b, off, none⟩ ∧ b < w.heap.size ∧
    w.cell? ⟨b, off + i * 3, none⟩ = some (I (l i).1) ∧ w.cell? ⟨b, off + i * 3 + 1, none⟩ = some (I (l i).2.1) ∧ w.cell? ⟨b, off + i * 3 + 2, none⟩ = some (I (l i).2.2)

/-- A list of raw numbers. -/
structure PicksIn (w : World) (v : Value) (n : Nat) (f : Nat → Int) : Prop where
  form : ∃ ao cap, v = .slice ao n cap ∧ n ≤ cap ∧ n ≤ maxLen ∧ ∀ i, i < n → -9223372036854775808 ≤ f i ∧ ∃ b off, ao = some ⟨b, off, none⟩ ∧ b < w.heap.size ∧ w.cell? ⟨b, off + i, none⟩ = some (I (f i))
set_option maxRecDepth 100000 in
theorem kop_open2 {H : Type} {enc : TypeId × Value → H} {W : World} {base n : Nat} {held : Bool} {sp : Nat → Bool} {cs : List Value} {x : DataW H × List MemPlace}
    (h : DataW.trod enc Try.prog W base sp held n 31 cs = some x) (hl : cs.length = 3) : ∃ q : Int × Int × Int, cs = [I q.1, I q.2.1, I q.2.2] := by
  obtain ⟨xs, m, h1, h2, _, hlen, hf⟩ := DataW.trod_struct Try.underlying31 h
  have hlen3 : xs.length = 3 := hlen
  have e1 : Try.prog.cellsOf 3 = 1 := by kernel_rfl
  have key : ∀ i, i < 3 → ∀ f : Field, f.type = 3 → f.offset = i → DataW.trod enc Try.prog W base sp held m f.type ((cs.drop f.offset).take (Try.prog.cellsOf f.type)) = xs[i]? → ∃ a : Int, cs[i]? = some (I a) := by
    intro i hi f ht ho hx
    rw [ht, ho, e1] at hx
    rw [List.getElem?_eq_getElem (by omega : i < xs.length)] at hx
    obtain ⟨a, hc, _⟩ := DataW.trod_int Try.underlying3 hx
    refine ⟨a, ?_⟩
    have := congrArg (fun l => l[0]?) hc
    simpa using this
  obtain ⟨a0, q0⟩ := key 0 (by omega) _ rfl rfl (hf 0 _ rfl)
  obtain ⟨a1, q1⟩ := key 1 (by omega) _ rfl rfl (hf 1 _ rfl)
  obtain ⟨a2, q2⟩ := key 2 (by omega) _ rfl rfl (hf 2 _ rfl)
  refine ⟨(a0, a1, a2), ?_⟩
  apply List.ext_getElem?
  intro i
  by_cases hi : i < 3
  · have : i = 0 ∨ i = 1 ∨ i = 2 := by omega
    rcases this with rfl | rfl | rfl
    · exact q0
    · exact q1
    · exact q2
  · rw [List.getElem?_eq_none (by omega), List.getElem?_eq_none (by simp; omega)]

theorem kscript_open2 {H : Type} {enc : TypeId × Value → H} {W : World} {base : Nat} {held : Bool} {ao : Option Addr} {len cap : Nat} {d : DataW H} {p : List MemPlace}
    (h : DataW.Trod enc Try.prog W base (fun _ => true) held 24 (.slice ao len cap) d p) : ∃ l, ScrAt W (.slice ao len cap) len l := by
  obtain ⟨fuel, hf⟩ := h
  rcases Go.Deep.open_slice Try.underlying24 hf with ⟨hcs, _⟩ | ⟨a, len', cap', m, n, D, Pl, hcs, _, hl, hm, hmm, _, hx⟩
  · simp [Value.cells] at hcs
    obtain ⟨rfl, rfl, rfl⟩ := hcs
    exact ⟨fun _ => (0, 0, 0), ⟨none, 0, rfl, Nat.le_refl _, Nat.zero_le _, fun i hi => absurd hi (by omega)⟩⟩
  · simp [Value.cells] at hcs
    obtain ⟨rfl, rfl, rfl⟩ := hcs
    have e3 : Try.prog.cellsOf 31 = 3 := by kernel_rfl
    simp only [if_true] at hmm
    subst hmm
    rw [e3] at hx
    have key : ∀ i, i < len → ∃ q : Int × Int × Int, ∃ b off, (some a : Option Addr) = some ⟨b, off, none⟩ ∧ b < W.heap.size ∧
        W.cell? ⟨b, off + i * 3, none⟩ = some (I q.1) ∧ W.cell? ⟨b, off + i * 3 + 1, none⟩ = some (I q.2.1) ∧ W.cell? ⟨b, off + i * 3 + 2, none⟩ = some (I q.2.2) := by
      intro i hi
      obtain ⟨cs', h1, h2⟩ := hx i (by omega)
      obtain ⟨_, hlen, hc⟩ := World.cells?_some h1
      obtain ⟨q, rfl⟩ := kop_open2 h2 hlen
      have c0 := hc 0 (by omega)
      have c1 := hc 1 (by omega)
      have c2 := hc 2 (by omega)
      obtain ⟨b, off, sp⟩ := a
      have hsp : sp = none := by
        cases sp with
        | none => rfl
        | some s =>
          exfalso
          obtain ⟨cs0, g1, g2⟩ := hx 0 (by omega)
          obtain ⟨_, glen, gc⟩ := World.cells?_some g1
          have g0 := gc 0 (by omega)
          rw [List.getElem?_eq_getElem (by omega)] at g0
          have ea : ((⟨b, off, some s⟩ : Addr).add (0 * 3)).add 0 = ⟨b, off, some s⟩ := by simp [Addr.add]
          rw [ea] at g0
          unfold World.cell? at g0
          split at g0 <;> simp at g0
      subst hsp
      have ad : ∀ j, ((⟨b, off, none⟩ : Addr).add (i * 3)).add j = ⟨b, off + i * 3 + j, none⟩ := by
        intro j
        unfold Addr.add
        split <;> split <;> simp_all
      rw [ad] at c0 c1 c2
      refine ⟨q, b, off, rfl, cell_lt c1, ?_, ?_, ?_⟩
      · simpa using c0
      · simpa using c1
      · simpa using c2
    obtain ⟨l, hl2⟩ := Go.Deep.choose_lt key
    exact ⟨l, ⟨some a, _, rfl, hl, Nat.le_trans hl hm, hl2⟩⟩

theorem kpicks_open {H : Type} {enc : TypeId × Value → H} {W : World} {base : Nat} {held : Bool} {ao : Option Addr} {len cap : Nat} {d : DataW H} {p : List MemPlace}
    (h : DataW.Trod enc Try.prog W base (fun _ => true) held 25 (.slice ao len cap) d p) : ∃ l, PicksIn W (.slice ao len cap) len l := by
  obtain ⟨fuel, hf⟩ := h
  rcases Go.Deep.open_slice Try.underlying25 hf with ⟨hcs, _⟩ | ⟨a, len', cap', m, n, D, Pl, hcs, _, hl, hm, hmm, _, hx⟩
  · simp [Value.cells] at hcs
    obtain ⟨rfl, rfl, rfl⟩ := hcs
    exact ⟨fun _ => 0, ⟨none, 0, rfl, Nat.le_refl _, Nat.zero_le _, fun i hi => absurd hi (by omega)⟩⟩
  · simp [Value.cells] at hcs
    obtain ⟨rfl, rfl, rfl⟩ := hcs
    have e1 : Try.prog.cellsOf 3 = 1 := by kernel_rfl
    simp only [if_true] at hmm
    subst hmm
    rw [e1] at hx
    have key : ∀ i, i < len → ∃ q : Int, -9223372036854775808 ≤ q ∧ ∃ b off, (some a : Option Addr) = some ⟨b, off, none⟩ ∧ b < W.heap.size ∧ W.cell? ⟨b, off + i, none⟩ = some (I q) := by
      intro i hi
      obtain ⟨cs', h1, h2⟩ := hx i (by omega)
      obtain ⟨_, hlen, hc⟩ := World.cells?_some h1
      obtain ⟨q, rfl, _, hwf⟩ := DataW.trod_int Try.underlying3 h2
      have c0 := hc 0 (by omega)
      obtain ⟨b, off, sp⟩ := a
      have hsp : sp = none := by
        cases sp with
        | none => rfl
        | some s =>
          exfalso
          obtain ⟨cs0, g1, g2⟩ := hx 0 (by omega)
          obtain ⟨_, glen, gc⟩ := World.cells?_some g1
          have g0 := gc 0 (by omega)
          rw [List.getElem?_eq_getElem (by omega)] at g0
          have ea : ((⟨b, off, some s⟩ : Addr).add (0 * 1)).add 0 = ⟨b, off, some s⟩ := by simp [Addr.add]
          rw [ea] at g0
          unfold World.cell? at g0
          split at g0 <;> simp at g0
      subst hsp
      have ad : ∀ j, ((⟨b, off, none⟩ : Addr).add (i * 1)).add j = ⟨b, off + i * 1 + j, none⟩ := by
        intro j
        unfold Addr.add
        split <;> split <;> simp_all
      rw [ad] at c0
      have c0' : W.cell? ⟨b, off + i, none⟩ = some (I q) := by simpa using c0
      exact ⟨q, (bounds_i64 hwf).1, b, off, rfl, cell_lt c0', c0'⟩
    obtain ⟨l, hl2⟩ := Go.Deep.choose_lt key
    exact ⟨l, ⟨some a, _, rfl, hl, Nat.le_trans hl hm, hl2⟩⟩

end Go.Proofs.Ytjnmpejcegmkhab
