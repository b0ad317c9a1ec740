/- A step of a script that spawns, or looks: the statements' own step answers true, and both trees go on alike. A Step of a script: the statements' own step answers true, and both trees go on alike. A script of which the steps of some kinds are played: every answer is the document's, and at the end every process and every node. No statement of the seat is proved here. -/
import Derived.Test.YtjnmpejcegmkhaaCBothA
import Derived.Deep.RegionWith
import Derived.Deep.DeepCutAuto
import Derived.Test.YtjnmpejcegmkhaaSpZ
namespace Go.Proofs.Ytjnmpejcegmkhaa
open Go.RowKit

set_option maxHeartbeats 4000000 in
theorem cstep_seven {w : World} {B : Nat} {c : Conf} {lb : Nat} {L : Lay} {P : PLay} (h : CSt w B c lb L P) (a b : Int) :
    Calls Try.prog 33 #[.pointer (some ⟨lb, 0, none⟩), .agg #[I 7, I a, I b]] w fun e w' => e = .returned (.bool true) ∧ Below w.heap.size w w' := by
  have hc := fun W (hb : Below w.heap.size w W) => sameProc_agree (h.below hb).lawRep (h.below hb).ref (h.rel.rel.agree h.rel.ck.si (h.below hb).prog) a
  replace hc : Hid _ := hc
  clear h
  go_enter Try.func33, Try.ntmps33
  go_wp2_with fail
  refine (hc.out _ ((Below.refl _ _).alloc (Nat.le_refl _) _)).mono ?_
  rintro e w1 ⟨rfl, hb1⟩
  go_wp2
  go_ret
  exact ⟨rfl, ((Below.refl _ _).alloc (Nat.le_refl _) _).trans (hb1.mono (by simp))⟩

set_option maxHeartbeats 4000000 in
theorem cstep_eleven {w : World} {B : Nat} {c : Conf} {lb : Nat} {L : Lay} {P : PLay} (h : CSt w B c lb L P) (a b : Int) :
    Calls Try.prog 33 #[.pointer (some ⟨lb, 0, none⟩), .agg #[I 11, I a, I b]] w fun e w' => e = .returned (.bool true) ∧ Below w.heap.size w w' := by
  have hlen : 1 ≤ L.past.length := by have := h.rel.rel.lenle; omega
  have hc := fun W (hb : Below w.heap.size w W) => agrees_c (h.below hb).lawRep (h.below hb).ref h.rel.rel.ok hlen (h.rel.rel.agree h.rel.ck.si (h.below hb).prog)
  replace hc : Hid _ := hc
  clear h
  go_enter Try.func33, Try.ntmps33
  go_wp2_with fail
  refine (hc.out _ ((Below.refl _ _).alloc (Nat.le_refl _) _)).mono ?_
  rintro e w1 ⟨rfl, hb1⟩
  go_wp2
  go_ret
  exact ⟨rfl, ((Below.refl _ _).alloc (Nat.le_refl _) _).trans (hb1.mono (by simp))⟩

set_option maxHeartbeats 8000000 in
theorem cstep_spawn {w : World} {B : Nat} {c : Conf} {lb : Nat} {L : Lay} {P : PLay} (h : CSt w B c lb L P) (k a b : Int) (hk : k = 1 ∨ k = 2 ∨ k = 3 ∨ k = 4 ∨ k = 5 ∨ k = 6) :
    Calls Try.prog 33 #[.pointer (some ⟨lb, 0, none⟩), .agg #[I k, I a, I b]] w fun e w' => e = .returned (.bool true) ∧ (∃ L' P', CSt w' B c lb L' P') ∧ Below B w w' := by
  have hw := fun W => wanted_c k a b hk W
  have b7 : (k == 7) = false := by simp; omega
  have b8 : (k == 8) = false := by simp; omega
  have b9 : (k == 9) = false := by simp; omega
  have b10 : (k == 10) = false := by simp; omega
  have b11 : (k == 11) = false := by simp; omega
  have hs := cspawn_both h (wantOp k a b)
  have f0 : w.cell? ⟨lb, 0, none⟩ = some (.pointer (some ⟨P.tb, 0, none⟩)) := h.lawRep.c0
  have f1 : w.cell? ⟨lb, 1, none⟩ = some (.pointer (some ⟨L.tb, 0, none⟩)) := h.lawRep.c1
  have l0 := cell_lt f0
  have hB := h.hB
  unfold opV at hw hs
  replace hw : Hid _ := hw
  generalize hop : wantOp k a b = o at *
  clear hop hk
  obtain ⟨ok, ov, on⟩ := o
  simp only at hw hs
  rcases hs with ⟨e0, hp, hr⟩ | ⟨hlim, hp, hr⟩
  · replace hp : Hid _ := hp
    replace hr : Hid _ := hr
    go_enter Try.func33, Try.ntmps33
    go_wp2_with fail
    refine (hw.out _).mono ?_
    rintro e w1 ⟨rfl, hb1⟩
    have hb2 : Below w.heap.size w w1 := ((Below.refl _ _).alloc (Nat.le_refl _) _).trans (hb1.mono (by simp))
    have g0 := (hb2.cell (p := ⟨lb, 0, none⟩) l0).trans f0
    have l1 : lb < w1.heap.size := Nat.lt_of_lt_of_le l0 hb2.size
    clear hb1 hw
    go_wp2_with fail
    go_region_with (go_at_call 40; refine (hp.out _ (h.below ((hb2.alloc hb2.size _).drew)).prog).mono ?_; rintro e w2 ⟨rfl, hb3⟩)
    all_goals
      have hb4 : Below w.heap.size w w2 := ((hb2.alloc hb2.size _).drew).trans (hb3.mono (by show w.heap.size ≤ (w1.alloc _).heap.size; simp; exact Nat.le_succ_of_le hb2.size))
      have nx : w2.heap[w1.heap.size]? = some (.cells #[I ok, I ov, I on] 33 (0, 0)) := (hb3.block _ (by show w1.heap.size < (w1.alloc _).heap.size; simp)).trans (nb_alloc _ _ _)
      have g1 := (hb4.cell (p := ⟨lb, 1, none⟩) l0).trans f1
      obtain ⟨x1, _⟩ := nb_facts nx
      clear hb3
      go_wp2_with fail
      go_region_with (go_at_call 64; refine (hr.out _ (h.below hb4.drew).ref).mono ?_; rintro e w3 ⟨rfl, hb5⟩)
      all_goals
        have hb6 : Below w.heap.size w w3 := hb4.drew.trans (hb5.mono hb4.size)
        clear hb5
        go_wp2
        go_ret
        exact ⟨rfl, ⟨L, P, h.below hb6⟩, hb6.mono hB⟩
  · replace hp : Hid _ := hp
    replace hr : Hid _ := hr
    go_enter Try.func33, Try.ntmps33
    go_wp2_with fail
    refine (hw.out _).mono ?_
    rintro e w1 ⟨rfl, hb1⟩
    have hb2 : Below w.heap.size w w1 := ((Below.refl _ _).alloc (Nat.le_refl _) _).trans (hb1.mono (by simp))
    have g0 := (hb2.cell (p := ⟨lb, 0, none⟩) l0).trans f0
    have l1 : lb < w1.heap.size := Nat.lt_of_lt_of_le l0 hb2.size
    clear hb1 hw
    go_wp2_with fail
    go_region_with (go_at_call 40; refine (hp.out _ (h.below ((hb2.alloc hb2.size _).drew)).prog (h.below ((hb2.alloc hb2.size _).drew)).hB).mono ?_; rintro e w2 ⟨rfl, ⟨y, hpr⟩, hc2⟩)
    all_goals
      have hbx := (hb2.alloc hb2.size (.cells #[I ok, I ov, I on] 33)).drew
      have h2 := h.below hbx
      have nx : w2.heap[w1.heap.size]? = some (.cells #[I ok, I ov, I on] 33 (0, 0)) := hc2.at (nb_alloc _ _ _) (by decide)
      have hlw := hc2.at h2.law (by decide)
      have hrf := h2.ref.chg hc2 (by decide) (by decide) (by decide) (by decide) (by decide) (by decide)
      have hB2 : B ≤ w2.heap.size := Nat.le_trans h2.hB hc2.size
      have g1 : w2.cell? ⟨lb, 1, none⟩ = some (.pointer (some ⟨L.tb, 0, none⟩)) := by rw [block_cell hlw]; rfl
      have hbB := (hbx.mono hB).trans (hc2.below h2.hB)
      obtain ⟨x1, _⟩ := nb_facts nx
      replace hlw : Hid _ := hlw
      clear hc2 h2
      go_wp2_with fail
      go_region_with (go_at_call 64; refine (hr.out _ (hrf.below (Below.refl _ _).drew) hB2).mono ?_; rintro e w3 ⟨rfl, ⟨nb, z, hrr⟩, hc3⟩)
      all_goals
        have hc4 : ChgT B [110, 129] w2 w3 := ⟨hc3.os, hc3.tape, hc3.output, hc3.size, hc3.block⟩
        have hlw3 := hc4.at hlw.out (by decide)
        have hp3 := hpr.chg hc4 (by decide) (by decide) (by decide)
        have hbB3 := hbB.trans (hc4.below hB2)
        have hB3 : B ≤ w3.heap.size := Nat.le_trans hB2 hc4.size
        have hrel := h.rel.push ⟨ok, ov, on⟩ hlim.1 nb z y hlim.2.1 hlim.2.2
        replace hlw3 : Hid _ := hlw3
        clear hc3 hc4
        go_wp2
        go_ret
        exact ⟨rfl, ⟨{ L with pv := z, procs := L.procs ++ [(nb, newPr ⟨ok, ov, on⟩)] }, { P with pv := y, procs := P.procs ++ [newPP ⟨ok, ov, on⟩] }, ⟨hlw3.out, hrr, hp3, hrel, hB3⟩⟩, hbB3⟩

set_option maxHeartbeats 8000000 in
set_option maxRecDepth 100000 in
theorem cstep_step {w : World} {B : Nat} {c : Conf} {lb : Nat} {L : Lay} {P : PLay} (h : CSt w B c lb L P) (a b : Int) :
    Calls Try.prog 33 #[.pointer (some ⟨lb, 0, none⟩), .agg #[I 8, I a, I b]] w fun e w' => e = .returned (.bool true) ∧ (∃ L' P', CSt w' B c lb L' P') ∧ Below B w w' := by
  have hs := cstep_both h a b
  have f0 : w.cell? ⟨lb, 0, none⟩ = some (.pointer (some ⟨P.tb, 0, none⟩)) := h.lawRep.c0
  have f1 : w.cell? ⟨lb, 1, none⟩ = some (.pointer (some ⟨L.tb, 0, none⟩)) := h.lawRep.c1
  have l0 := cell_lt f0
  have hB := h.hB
  have hba : Below w.heap.size w (w.alloc (.cells #[I 8, I a, I b] 64)) := (Below.refl _ _).alloc (Nat.le_refl _) _
  have noa : (w.alloc (.cells #[I 8, I a, I b] 64)).heap[w.heap.size]? = some (.cells #[I 8, I a, I b] 64 (0, 0)) := nb_alloc _ _ _
  rcases hs with ⟨hp, hr⟩ | ⟨i, rfl, ph, FP, FL, hrel, htP, htL, hp, hr⟩
  · replace hp : Hid _ := hp
    replace hr : Hid _ := hr
    go_enter Try.func33, Try.ntmps33
    go_wp2_with fail
    go_cut [5, 6] (fun s5 s6 wx => s5 = I 0 ∧ s6 = I 5 ∧ Below (w.alloc (.cells #[I 8, I a, I b] 64)).heap.size (w.alloc (.cells #[I 8, I a, I b] 64)) wx)
    case first =>
      go_region_with (go_at_call 57; refine (hp.out _ (h.below hba.drew).prog).mono ?_; rintro e w1 ⟨rfl, hb1⟩)
      all_goals
        go_wp2_with fail
        go_meet
        exact ⟨rfl, rfl, (Below.refl _ _).drew.trans hb1⟩
    case rest =>
      obtain ⟨rfl, rfl, hb1⟩ := hcut
      have hb2 : Below w.heap.size w wc := hba.trans (hb1.mono (by simp))
      have nx : wc.heap[w.heap.size]? = some (.cells #[I 8, I a, I b] 64 (0, 0)) := (hb1.block _ (by simp)).trans noa
      have g1 := (hb2.cell (p := ⟨lb, 1, none⟩) l0).trans f1
      obtain ⟨x1, _⟩ := nb_facts nx
      clear hb1
      go_wp2_with fail
      go_region_with (go_at_call 58; refine (hr.out _ (h.below hb2.drew).ref).mono ?_; rintro e w2 ⟨rfl, hb3⟩)
      all_goals
        have hb4 : Below w.heap.size w w2 := hb2.drew.trans (hb3.mono hb2.size)
        clear hb3
        go_wp2
        go_ret
        exact ⟨rfl, ⟨L, P, h.below hb4⟩, hb4.mono hB⟩
  · replace hp : Hid _ := hp.2
    replace hr : Hid _ := hr
    have HR : Hid _ := hrel
    have HTP : Hid _ := htP
    have HTL : Hid _ := htL
    clear hrel htP htL
    go_enter Try.func33, Try.ntmps33
    go_wp2_with fail
    go_cut [5, 6] (fun s5 s6 wx => s5 = I ph ∧ s6 = I 0 ∧ (∃ P', FP P' ∧ PRep wx B P') ∧ ChgT B [78, 119, 135] (w.alloc (.cells #[I 8, I i, I b] 64)) wx)
    case first =>
      go_region_with (go_at_call 57; refine (hp.out _ (h.below hba.drew).prog (h.below hba.drew).hB).mono ?_; rintro e w1 ⟨rfl, hpr, hc1⟩)
      all_goals
        go_wp2_with fail
        go_meet
        exact ⟨rfl, rfl, hpr, ⟨hc1.os, hc1.tape, hc1.output, hc1.size, hc1.block⟩⟩
    case rest =>
      obtain ⟨rfl, rfl, ⟨P2, hFP, hpr⟩, hc1⟩ := hcut
      have h1 := h.below hba
      have nx : wc.heap[w.heap.size]? = some (.cells #[I 8, I i, I b] 64 (0, 0)) := hc1.at noa (by decide)
      have hlw := hc1.at h1.law (by decide)
      have hrf := h1.ref.chg hc1 (by decide) (by decide) (by decide) (by decide) (by decide) (by decide)
      have hB1 : B ≤ wc.heap.size := Nat.le_trans h1.hB hc1.size
      have g1 : wc.cell? ⟨lb, 1, none⟩ = some (.pointer (some ⟨L.tb, 0, none⟩)) := by rw [block_cell hlw]; rfl
      have hbB := (hba.mono hB).trans (hc1.below h1.hB)
      obtain ⟨x1, _⟩ := nb_facts nx
      replace hlw : Hid _ := hlw
      clear hc1 h1
      go_wp2_with fail
      go_region_with (go_at_call 58; refine (hr.out _ (hrf.below (Below.refl _ _).drew) hB1).mono ?_; rintro e w2 ⟨rfl, ⟨L2, hFL, hrr⟩, hc2⟩)
      all_goals
        have hc3 : ChgT B [136, 125, 128] wc w2 := ⟨hc2.os, hc2.tape, hc2.output, hc2.size, hc2.block⟩
        have hlw2 := hc3.at hlw.out (by decide)
        have hp2 := hpr.chg hc3 (by decide) (by decide) (by decide)
        have hbB2 := hbB.trans (hc3.below hB1)
        have hB2 : B ≤ w2.heap.size := Nat.le_trans hB1 hc3.size
        have hcl : lawCells P L = lawCells P2 L2 := by unfold lawCells; rw [HTP.out P2 hFP, HTL.out L2 hFL]
        rw [hcl] at hlw2
        replace hlw2 : Hid _ := hlw2
        have hrel2 := HR.out L2 P2 hFL hFP
        clear hc2 hc3
        go_wp2
        go_ret
        exact ⟨rfl, ⟨L2, P2, ⟨hlw2.out, hrr, hp2, hrel2, hB2⟩⟩, hbB2⟩

theorem isIn_take (ks : List Int) (k : Int) (j : Nat) (hj : j < ks.length) : isIn (ks.take (j + 1)) k = (isIn (ks.take j) k || (ks.getD j 0 == k)) := by
  rw [take_succ_get ks j hj]
  simp only [isIn, List.any_append, List.any_cons, List.any_nil, Bool.or_false, List.getD_eq_getElem?_getD]
  rw [List.getElem?_eq_getElem hj]
  rfl
theorem ks_cell {ks : List Int} {w : World} {kb : Nat} (h : w.heap[kb]? = some (.cells (ks.map I).toArray 3 (0, 0))) (j : Nat) (hj : j < ks.length) : w.cell? ⟨kb, j, none⟩ = some (I (ks.getD j 0)) := by
  rw [block_cell h]
  simp [List.getD_eq_getElem?_getD, List.getElem?_eq_getElem hj]

set_option maxHeartbeats 8000000 in
theorem plays_c (ks : List Int) (hks : ks.length ≤ 100) (HSP : ∀ (w : World) (B : Nat) (c : Conf) (lb : Nat) (L : Lay) (P : PLay), CSt w B c lb L P → ∀ k a b : Int, isIn ks k = true → Calls Try.prog 33 #[.pointer (some ⟨lb, 0, none⟩), .agg #[I k, I a, I b]] w fun e w' => e = .returned (.bool true) ∧ (∃ L' P', CSt w' B c lb L' P') ∧ Below B w w')
    (c : Conf) (w : World) (h : mayC c = true) (v : Value) (n : Nat) (l : Nat → Int × Int × Int) (hs : ScriptAt w v n l) (kb : Nat) (hkb : w.heap[kb]? = some (.cells (ks.map I).toArray 3 (0, 0))) :
    Calls Try.prog 14 #[confV c, v, .slice (some ⟨kb, 0, none⟩) ks.length ks.length] w fun e w' => e = .returned (.bool true) ∧ Below w.heap.size w w' := by
  have h1 := fun W => begin_yes c W h
  replace HSP : Hid _ := HSP
  have HIS : Hid (∀ kd j, j < ks.length → isIn (ks.take (j + 1)) kd = (isIn (ks.take j) kd || (ks.getD j 0 == kd))) := fun kd j hj => isIn_take ks kd j hj
  have HKB : Hid (∀ W : World, W.heap[kb]? = some (.cells (ks.map I).toArray 3 (0, 0)) → ∀ j, j < ks.length → W.cell? ⟨kb, j, none⟩ = some (I (ks.getD j 0))) := fun W hW j hj => ks_cell hW j hj
  have HTA : Hid (∀ kd, isIn (ks.take ks.length) kd = isIn ks kd) := fun kd => by show _ = _; rw [List.take_length]
  generalize hm : ks.length = m at *
  unfold confV at h1 ⊢
  have HM : Hid (mayC c = true) := h
  clear h
  replace h1 : Hid _ := h1
  obtain ⟨ao, cap, rfl, n1, n2, hcell⟩ := hs.form
  unfold maxLen at n2
  clear hs
  have lk := (Array.getElem?_eq_some_iff.1 hkb).1
  go_enter Try.func14, Try.ntmps14
  go_wp2_with fail
  refine (h1.out _).mono ?_
  rintro e w1 ⟨lb, L, P, rfl, hr, hrn, hp, hpn, hlb, _, hb1⟩
  have hb2 : Below w.heap.size w w1 := ((Below.refl _ _).alloc (Nat.le_refl _) _).trans (hb1.mono (by simp))
  have hst : CSt w1 w.heap.size c lb L P := ⟨hlb, hr.base (by simp), hp.base (by simp), crel_new HM.out hrn hpn hp.len, hb2.size⟩
  clear hb1 h1 hlb hr hrn hp hpn
  go_wp2_with fail
  go_loopw [8, 9, 10, 11] (fun _ i _ _ wr => ∃ (k : Nat) (L : Lay) (P : PLay), k ≤ n ∧ i = .int .i64 k ∧ CSt wr w.heap.size c lb L P ∧ Below w.heap.size w wr) (fun _ i _ _ _ => n - (intOf i).toNat)
  case atStart => exact ⟨0, L, P, Nat.zero_le _, rfl, hst, hb2⟩
  case round =>
    obtain ⟨k, L1, P1, hk, rfl, hst1, hbr⟩ := hrel
    by_cases hlt : k < n
    · obtain ⟨b, off, rfl, lbk, s0, s1, s2⟩ := hcell k hlt
      have t0 := (hbr.cell (p := ⟨b, off + k * 3, none⟩) lbk).trans s0
      have t1 := (hbr.cell (p := ⟨b, off + k * 3 + 1, none⟩) lbk).trans s1
      have t2 := (hbr.cell (p := ⟨b, off + k * 3 + 2, none⟩) lbk).trans s2
      have lb2 : b < wr.heap.size := Nat.lt_of_lt_of_le lbk hbr.size
      have hkr := (hbr.block kb lk).trans hkb
      have lk2 := (Array.getElem?_eq_some_iff.1 hkr).1
      have HKC : Hid (∀ j, j < m → wr.cell? ⟨kb, j, none⟩ = some (I (ks.getD j 0))) := HKB.out wr hkr
      clear s0 s1 s2 hcell hkr
      generalize l k = q at *
      obtain ⟨kd, xa, xb⟩ := q
      simp only at t0 t1 t2
      go_wp2_with fail
      go_loopw [10, 11] (fun inn kk wr2 => ∃ j : Nat, j ≤ m ∧ kk = .int .i64 j ∧ inn = .bool (isIn (ks.take j) kd) ∧ Below wr.heap.size wr wr2) (fun _ kk _ => m - (intOf kk).toNat)
      case atStart => exact ⟨0, by omega, rfl, rfl, Below.refl _ _⟩
      case round =>
        obtain ⟨j, hj, rfl, rfl, hb3⟩ := hrel
        by_cases hj8 : j < m
        · have hsu := HIS.out kd j hj8
          have kc := (hb3.cell (p := ⟨kb, j, none⟩) lk2).trans (HKC.out j hj8)
          have tk := (hb3.cell (p := ⟨b, off + k * 3, none⟩) lb2).trans t0
          have hj8' : (j : Int) < m := by omega
          generalize ks.getD j 0 = kj at *
          cases hin : isIn (ks.take j) kd with
          | true =>
            rw [hin] at hsu
            have HS : Hid (isIn (ks.take (j + 1)) kd = true) := by rw [hsu]; rfl
            clear hsu hin
            go_wp2_with fail
            go_quiet (fail)
            go_wp2
            go_roundw
            case rel => exact ⟨j + 1, by omega, by go_num, by rw [HS.out], Below.drewN' hb3 _⟩
            case measure => simp [intOf]; omega
          | false =>
            rw [hin] at hsu
            have HS : Hid (isIn (ks.take (j + 1)) kd = (kj == kd)) := by rw [hsu]; rfl
            clear hsu hin
            go_wp2_with fail
            go_quiet (fail)
            go_wp2
            go_roundw
            case rel => exact ⟨j + 1, by omega, by go_num, by rw [HS.out], Below.drewN' hb3 _⟩
            case measure => simp [intOf]; omega
        · have e8 : j = m := by omega
          subst e8
          rw [HTA.out]
          have hst2 := hst1.below hb3
          have hb4 := hbr.trans (hb3.mono hbr.size)
          cases hin : isIn ks kd with
          | false =>
            clear hin
            go_wp2_with fail
            go_roundw
            case rel => exact ⟨k + 1, L1, P1, by omega, by go_num, hst2, hb4⟩
            case measure => simp [intOf]; omega
          | true =>
            have hsp := HSP.out _ _ _ _ _ _ hst2 kd xa xb hin
            have u0 := (hb3.cell (p := ⟨b, off + k * 3, none⟩) lb2).trans t0
            have u1 := (hb3.cell (p := ⟨b, off + k * 3 + 1, none⟩) lb2).trans t1
            have u2 := (hb3.cell (p := ⟨b, off + k * 3 + 2, none⟩) lb2).trans t2
            clear hin t0 t1 t2 HKC hb3 hbr hst1
            go_wp2_with fail
            refine hsp.mono ?_
            rintro e w4 ⟨rfl, ⟨L2, P2, hst4⟩, hb5⟩
            have hlk := looks_c hst4.law
            have hb6 := hb4.trans hb5
            clear hb5 hsp u0 u1 u2 hst2 hb4
            go_wp2_with fail
            refine hlk.mono ?_
            rintro e w5 ⟨rfl, rfl⟩
            clear hlk
            go_wp2_with fail
            go_roundw
            case rel => exact ⟨k + 1, L2, P2, by omega, by go_num, hst4, hb6⟩
            case measure => simp [intOf]; omega
    · have hlen : 1 ≤ L1.past.length := by have := hst1.rel.rel.lenle; omega
      have hag := agrees_c hst1.lawRep hst1.ref hst1.rel.rel.ok hlen (hst1.rel.rel.agree hst1.rel.ck.si hst1.prog)
      go_wp2_with fail
      refine hag.mono ?_
      rintro e w2 ⟨rfl, hb3⟩
      go_wp2
      go_ret
      exact ⟨rfl, hbr.trans (hb3.mono hbr.size)⟩

end Go.Proofs.Ytjnmpejcegmkhaa
