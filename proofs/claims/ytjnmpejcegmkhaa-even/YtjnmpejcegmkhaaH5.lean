/- The contract of package prismkeep's rest. No statement of the seat is proved here. -/
import Derived.Test.YtjnmpejcegmkhaaH2
import Derived.Test.YtjnmpejcegmkhaaKeep8
namespace Go.Proofs.Ytjnmpejcegmkhaa
open Go.RowKit

def wentTo (went : List Bool) : Nat → List Bool
  | 0 => went
  | k + 1 => (wentTo went k).set k true
theorem wentTo_len (went : List Bool) : ∀ k, (wentTo went k).length = went.length
  | 0 => rfl
  | k + 1 => by rw [wentTo, List.length_set, wentTo_len went k]
theorem wentTo_at (went : List Bool) : ∀ k j, (hj : j < went.length) → (hj' : j < (wentTo went k).length) → (wentTo went k)[j] = if j < k then true else went[j]
  | 0, j, hj, _ => by simp [wentTo]
  | k + 1, j, hj, hj' => by
    have ih := wentTo_at went k j hj (by rw [wentTo_len]; exact hj)
    simp only [wentTo]
    by_cases e : j = k
    · subst e
      rw [List.getElem_set_self, if_pos (by omega)]
    · rw [List.getElem_set_ne (Ne.symm e), ih]
      by_cases e2 : j < k
      · rw [if_pos e2, if_pos (by omega)]
      · rw [if_neg e2, if_neg (by omega)]
theorem wentTo_all (went : List Bool) : wentTo went went.length = went.map fun _ => true := by
  refine List.ext_getElem (by rw [wentTo_len]; simp) fun j h1 h2 => ?_
  rw [wentTo_at went _ j (by rw [wentTo_len] at h1; exact h1) h1, if_pos (by rw [wentTo_len] at h1; exact h1)]
  simp

set_option maxHeartbeats 4000000 in
theorem krest_bad {w : World} {B hb : Nat} {P : PLay} {ops : List Op3} {went : List Bool} (h : KRep w B hb P ops went) (a b : Int) (ha : a < 0 ∨ 100 < a)
    (hs : ∀ W, Calls Try.prog 59 #[.pointer (some ⟨P.tb, 0, none⟩), I a, I b] W fun x w' => x = .returned (.tuple #[I 0, I 6]) ∧ w' = W) :
    Calls Try.prog 50 #[.pointer (some ⟨hb, 0, none⟩), I a, I b] w fun e w' => e = .returned (.bool true) ∧ Below w.heap.size w w' := by
  have c0 := h.t
  replace hs : Hid _ := hs
  clear h
  by_cases h0 : a < 0
  · have b0 : decide (a < 0) = true := by simp [h0]
    go_enter Try.func50, Try.ntmps50
    go_wp2_with fail
    refine Calls.mono (hs.out _) ?_
    rintro e w1 ⟨rfl, rfl⟩
    go_wp2
    go_ret
    exact ⟨rfl, Below.refl _ _⟩
  · have b0 : decide (a < 0) = false := by simp; omega
    have b1 : decide ((100 : Int) < a) = true := by simp; omega
    clear ha
    go_enter Try.func50, Try.ntmps50
    go_wp2_with fail
    refine Calls.mono (hs.out _) ?_
    rintro e w1 ⟨rfl, rfl⟩
    go_wp2
    go_ret
    exact ⟨rfl, Below.refl _ _⟩

set_option maxHeartbeats 8000000 in
set_option maxRecDepth 100000 in
theorem krest_run {w : World} {B hb : Nat} {P : PLay} {ops : List Op3} {went : List Bool} (h : KRep w B hb P ops went) (hB : B ≤ w.heap.size) (r : Nat) (hr : r ≤ 100) (b : Int) (lv : Nat) (F : PLay → Prop) (hF : ∀ P', F P' → P'.tb = P.tb ∧ P'.c = P.c ∧ P'.procs.length = P.procs.length ∧ pliveL P'.procs = lv)
    (hs : ∀ W, PRep W B P → B ≤ W.heap.size → Calls Try.prog 59 #[.pointer (some ⟨P.tb, 0, none⟩), I r, I b] W fun x w' => x = .returned (.tuple #[I lv, I 0]) ∧ (∃ P', F P' ∧ PRep w' B P') ∧ ChgT B [78, 119, 135] W w') :
    Calls Try.prog 50 #[.pointer (some ⟨hb, 0, none⟩), I r, I b] w fun e w' => e = .returned (.bool true) ∧ (∃ P', F P' ∧ KRep w' B hb P' ops (if (r : Int) = 0 then went else went.map fun _ => true)) ∧ ChgT B [78, 119, 135, 4] w w' := by
  have HW0 : Hid ((r : Int) = 0 → (if (r : Int) = 0 then went else went.map fun _ => true) = went) := fun e => if_pos e
  have HW1 : Hid (¬ (r : Int) = 0 → (if (r : Int) = 0 then went else went.map fun _ => true) = went.map fun _ => true) := fun e => if_neg e
  generalize (if (r : Int) = 0 then went else went.map fun _ => true) = wt at *
  have c0 := h.t
  have l0 := cell_lt c0
  have hc := hs w h.prog hB
  obtain ⟨ov, wv, hm⟩ := h.mem
  have hlen := h.len
  have hwlen := h.wlen
  obtain ⟨_, _, _, ao, cap, c9, q1, q2, q3⟩ := h.conf
  rw [hlen] at c9 q1 q2
  unfold maxLen at q2 q3
  have b0 : decide ((r : Int) < 0) = false := by simp
  have b1 : decide ((100 : Int) < (r : Int)) = false := by simp; omega
  have hK : Hid (∀ W P' wt, F P' → wt.length = went.length → KMem W B hb P' ov wv ops wt → KRep W B hb P' ops wt) := by
    intro W P' wt hf hl hmW
    obtain ⟨_, _, x, _⟩ := hF P' hf
    exact ⟨⟨_, _, hmW.blk, hmW.rop, hmW.rwe⟩, hmW.hB, hmW.prog, by rw [x]; exact hlen, by omega⟩
  have HL : Hid (∀ W P' wt, F P' → wt.length = went.length → KMem W B hb P' ov wv ops wt → Calls Try.prog 31 #[.pointer (some ⟨hb, 0, none⟩)] W fun e w' => e = .returned (I lv) ∧ Below W.heap.size W w') := by
    intro W P' wt hf hl hmW
    have := klive_c (hK.out W P' wt hf hl hmW)
    rw [(hF P' hf).2.2.2] at this
    exact this
  have H9 : Hid (∀ W P' wt, KMem W B hb P' ov wv ops wt → W.cell? ⟨hb, 9, none⟩ = some (.slice ao P.procs.length cap)) := by
    intro W P' wt hmW
    have e0 : w.cell? ⟨hb, 9, none⟩ = some ov := by rw [(nb_facts hm.blk).1 9]; rfl
    rw [e0] at c9
    rw [(nb_facts hmW.blk).1 9, ← c9]
    rfl
  replace hc : Hid _ := hc
  replace hF : Hid _ := hF
  clear h hs
  go_enter Try.func50, Try.ntmps50
  go_wp2_with fail
  refine Calls.mono hc.out ?_
  rintro e w1 ⟨rfl, ⟨P', hf, hp⟩, hch⟩
  obtain ⟨f1, f2, f3, f4⟩ := hF.out P' hf
  have hm1 := hm.stepped hch hp f1 f2
  have HCH : Hid _ := hch
  replace hf : Hid _ := hf
  clear hc hF hm hch hp f1 f2 f3 f4 c0 c9
  by_cases hr0 : r = 0
  · subst hr0
    have d9 := H9.out _ _ _ hm1
    have lh := cell_lt d9
    have HM : Hid _ := hm1
    have hlv := HL.out _ _ _ hf.out rfl hm1
    replace hlv : Hid _ := hlv
    have HR := hK.out _ _ _ hf.out rfl hm1
    replace HR : Hid _ := HR
    clear hm1
    go_wp2_with fail
    go_loopw [9] (fun pp wr => pp = .int .i64 0 ∧ wr = w1) (fun _ _ => 0)
    case atStart => exact ⟨rfl, rfl⟩
    case round =>
      obtain ⟨rfl, rfl⟩ := hrel
      have e0 : wt = went := HW0.out rfl
      subst e0
      clear HW0 HW1
      by_cases hnp : 0 < P.procs.length
      · have bn : decide ((0 : Int) < (P.procs.length : Int)) = true := decide_eq_true (by omega)
        go_wp2_with fail
        refine Calls.mono hlv.out ?_
        rintro e w2 ⟨rfl, hb2⟩
        go_wp2
        go_ret
        exact ⟨rfl, ⟨P', hf.out, HR.out.below hb2⟩, (HCH.out.mono (Nat.le_refl _) (by simp)).trans (ChgT.of_below hb2)⟩
      · have bn : decide ((0 : Int) < (P.procs.length : Int)) = false := decide_eq_false (by omega)
        go_wp2_with fail
        refine Calls.mono hlv.out ?_
        rintro e w2 ⟨rfl, hb2⟩
        go_wp2
        go_ret
        exact ⟨rfl, ⟨P', hf.out, HR.out.below hb2⟩, (HCH.out.mono (Nat.le_refl _) (by simp)).trans (ChgT.of_below hb2)⟩
  · have br : decide ((0 : Int) < (r : Int)) = true := by simp; omega
    have e0 : wt = went.map fun _ => true := HW1.out (by omega)
    subst e0
    clear HW0 HW1
    go_wp2_with fail
    go_loopw [9] (fun pp wr => ∃ k : Nat, k ≤ P.procs.length ∧ pp = .int .i64 k ∧ KMem wr B hb P' ov wv ops (wentTo went k) ∧ ChgT B [4] w1 wr) (fun pp _ => P.procs.length - (intOf pp).toNat)
    case atStart => exact ⟨0, Nat.zero_le _, rfl, hm1, ChgT.of_below (Below.refl _ _)⟩
    case round =>
      obtain ⟨k, hk, rfl, hmr, hcr⟩ := hrel
      have d9 := H9.out _ _ _ hmr
      have lh := cell_lt d9
      by_cases hlt : k < P.procs.length
      · obtain ⟨ao2, cap2, e1, r1, r2, r3, hrc⟩ := ownsRow_cells hmr.rwe
        have hkw : k < (wentTo went k).length := by rw [wentTo_len]; omega
        obtain ⟨gw, rfl, _, hgc⟩ := hrc k (.bool ((wentTo went k)[k])) (by simp [List.getElem?_eq_getElem hkw])
        have ewl : (wentTo went k).length = P.procs.length := by rw [wentTo_len]; omega
        have d10 : wr.cell? ⟨hb, 10, none⟩ = some (.slice (some ⟨gw, 0, none⟩) P.procs.length cap2) := by rw [(nb_facts hmr.blk).1 10, ← ewl, ← e1]; rfl
        rw [ewl] at r1 r2
        unfold maxLen at r2 r3
        have hmr' := hmr
        rw [e1] at hmr'
        obtain ⟨m1, m2⟩ := hmr'.wentSet k true
        rw [← e1] at m1
        have HM1 : Hid _ := m1
        have HM2 : Hid _ := m2
        have hfz : wr.frozen? ⟨gw, k, none⟩ = false := by
          obtain ⟨cur, hbk⟩ := ownsRow_block hmr'.rwe (g := gw) rfl
          exact (nb_facts hbk).2 k
        have dgw : wr.cell? ⟨gw, k, none⟩ = some (.bool ((wentTo went k)[k])) := by simpa using hgc
        have lgw := cell_lt dgw
        have hkl : (k : Int) < (P.procs.length : Int) := by omega
        generalize (wentTo went k)[k] = oldb at *
        clear hmr hmr' e1 hrc m1 m2 hgc
        go_wp2_with fail
        go_roundw
        case rel => exact ⟨k + 1, by omega, by go_num, HM1.out, hcr.trans HM2.out⟩
        case measure => simp [intOf]; omega
      · have ek : k = P.procs.length := by omega
        have hge : decide ((k : Int) < (P.procs.length : Int)) = false := by simp; omega
        have hlv := HL.out _ _ _ hf.out (wentTo_len went k) hmr
        replace hlv : Hid _ := hlv
        have HR := hK.out _ _ _ hf.out (wentTo_len went k) hmr
        have ew : wentTo went k = went.map fun _ => true := by rw [← wentTo_all, show k = went.length by omega]
        rw [ew] at HR
        replace HR : Hid _ := HR
        clear ew hmr
        go_wp2_with fail
        refine Calls.mono hlv.out ?_
        rintro e w2 ⟨rfl, hb2⟩
        go_wp2
        go_ret
        exact ⟨rfl, ⟨P', hf.out, HR.out.below hb2⟩, ((HCH.out.mono (Nat.le_refl _) (by simp)).trans (hcr.mono (Nat.le_refl _) (by simp))).trans (ChgT.of_below hb2)⟩

end Go.Proofs.Ytjnmpejcegmkhaa
