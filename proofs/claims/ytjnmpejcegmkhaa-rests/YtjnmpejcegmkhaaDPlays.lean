/- A script of which the steps of some kinds are played: every answer is the document's, and at the end every process and every node. No statement of the seat is proved here. -/
import Derived.Test.YtjnmpejcegmkhaaDBoth
import Derived.Test.YtjnmpejcegmkhaaSpZ
namespace Go.Proofs.Ytjnmpejcegmkhaa
open Go.RowKit

theorem isIn_take (ks : List Int) (k : Int) (j : Nat) (hj : j < ks.length) : isIn (ks.take (j + 1)) k = (isIn (ks.take j) k || (ks.getD j 0 == k)) := by
  rw [take_succ_get ks j hj]
  simp only [isIn, List.any_append, List.any_cons, List.any_nil, Bool.or_false, List.getD_eq_getElem?_getD]
  rw [List.getElem?_eq_getElem hj]
  rfl
theorem ks_cell {ks : List Int} {w : World} {kb : Nat} (h : w.heap[kb]? = some (.cells (ks.map I).toArray 3 (0, 0))) (j : Nat) (hj : j < ks.length) : w.cell? ⟨kb, j, none⟩ = some (I (ks.getD j 0)) := by
  rw [block_cell h]
  simp [List.getD_eq_getElem?_getD, List.getElem?_eq_getElem hj]

set_option maxHeartbeats 8000000 in
theorem plays_c (ks : List Int) (hks : ks.length ≤ 100) (HSP : ∀ (w : World) (B : Nat) (c : Conf) (lb : Nat) (L : Lay) (P : PLay), CSt w B c lb L P → ∀ k a b : Int, isIn ks k = true → Calls Try.prog 33 #[.pointer (some ⟨lb, 0, none⟩), .agg #[I k, I a, I b]] w fun e w' => e = .returned (.bool true) ∧ (∃ L' P', CSt w' B c lb L' P') ∧ Below B w w')
    (c : Conf) (w : World) (h : mayC c = true) (v : Value) (n : Nat) (l : Nat → Int × Int × Int) (hs : ScriptAt w v n l) (kb : Nat) (hkb : w.heap[kb]? = some (.cells (ks.map I).toArray 3 (0, 0))) :
    Calls Try.prog 14 #[confV c, v, .slice (some ⟨kb, 0, none⟩) ks.length ks.length] w fun e w' => e = .returned (.bool true) ∧ Below w.heap.size w w' := by
  have h1 := fun W => begin_yes c W h
  replace HSP : Hid _ := HSP
  have HIS : Hid (∀ kd j, j < ks.length → isIn (ks.take (j + 1)) kd = (isIn (ks.take j) kd || (ks.getD j 0 == kd))) := fun kd j hj => isIn_take ks kd j hj
  have HKB : Hid (∀ W : World, W.heap[kb]? = some (.cells (ks.map I).toArray 3 (0, 0)) → ∀ j, j < ks.length → W.cell? ⟨kb, j, none⟩ = some (I (ks.getD j 0))) := fun W hW j hj => ks_cell hW j hj
  have HTA : Hid (∀ kd, isIn (ks.take ks.length) kd = isIn ks kd) := fun kd => by show _ = _; rw [List.take_length]
  generalize hm : ks.length = m at *
  unfold confV at h1 ⊢
  have HM : Hid (mayC c = true) := h
  clear h
  replace h1 : Hid _ := h1
  obtain ⟨ao, cap, rfl, n1, n2, hcell⟩ := hs.form
  unfold maxLen at n2
  clear hs
  have lk := (Array.getElem?_eq_some_iff.1 hkb).1
  go_enter Try.func14, Try.ntmps14
  go_wp2_with fail
  refine (h1.out _).mono ?_
  rintro e w1 ⟨lb, L, P, rfl, hr, hrn, hp, hpn, hlb, _, hb1⟩
  have hb2 : Below w.heap.size w w1 := ((Below.refl _ _).alloc (Nat.le_refl _) _).trans (hb1.mono (by simp))
  have hst : CSt w1 w.heap.size c lb L P := ⟨hlb, hr.base (by simp), hp.base (by simp), crel_new HM.out hrn hpn hp.len, hb2.size⟩
  clear hb1 h1 hlb hr hrn hp hpn
  go_wp2_with fail
  go_loopw [8, 9, 10, 11] (fun _ i _ _ wr => ∃ (k : Nat) (L : Lay) (P : PLay), k ≤ n ∧ i = .int .i64 k ∧ CSt wr w.heap.size c lb L P ∧ Below w.heap.size w wr) (fun _ i _ _ _ => n - (intOf i).toNat)
  case atStart => exact ⟨0, L, P, Nat.zero_le _, rfl, hst, hb2⟩
  case round =>
    obtain ⟨k, L1, P1, hk, rfl, hst1, hbr⟩ := hrel
    by_cases hlt : k < n
    · obtain ⟨b, off, rfl, lbk, s0, s1, s2⟩ := hcell k hlt
      have t0 := (hbr.cell (p := ⟨b, off + k * 3, none⟩) lbk).trans s0
      have t1 := (hbr.cell (p := ⟨b, off + k * 3 + 1, none⟩) lbk).trans s1
      have t2 := (hbr.cell (p := ⟨b, off + k * 3 + 2, none⟩) lbk).trans s2
      have lb2 : b < wr.heap.size := Nat.lt_of_lt_of_le lbk hbr.size
      have hkr := (hbr.block kb lk).trans hkb
      have lk2 := (Array.getElem?_eq_some_iff.1 hkr).1
      have HKC : Hid (∀ j, j < m → wr.cell? ⟨kb, j, none⟩ = some (I (ks.getD j 0))) := HKB.out wr hkr
      clear s0 s1 s2 hcell hkr
      generalize l k = q at *
      obtain ⟨kd, xa, xb⟩ := q
      simp only at t0 t1 t2
      go_wp2_with fail
      go_loopw [10, 11] (fun inn kk wr2 => ∃ j : Nat, j ≤ m ∧ kk = .int .i64 j ∧ inn = .bool (isIn (ks.take j) kd) ∧ Below wr.heap.size wr wr2) (fun _ kk _ => m - (intOf kk).toNat)
      case atStart => exact ⟨0, by omega, rfl, rfl, Below.refl _ _⟩
      case round =>
        obtain ⟨j, hj, rfl, rfl, hb3⟩ := hrel
        by_cases hj8 : j < m
        · have hsu := HIS.out kd j hj8
          have kc := (hb3.cell (p := ⟨kb, j, none⟩) lk2).trans (HKC.out j hj8)
          have tk := (hb3.cell (p := ⟨b, off + k * 3, none⟩) lb2).trans t0
          have hj8' : (j : Int) < m := by omega
          generalize ks.getD j 0 = kj at *
          cases hin : isIn (ks.take j) kd with
          | true =>
            rw [hin] at hsu
            have HS : Hid (isIn (ks.take (j + 1)) kd = true) := by rw [hsu]; rfl
            clear hsu hin
            go_wp2_with fail
            go_quiet (fail)
            go_wp2
            go_roundw
            case rel => exact ⟨j + 1, by omega, by go_num, by rw [HS.out], Below.drewN' hb3 _⟩
            case measure => simp [intOf]; omega
          | false =>
            rw [hin] at hsu
            have HS : Hid (isIn (ks.take (j + 1)) kd = (kj == kd)) := by rw [hsu]; rfl
            clear hsu hin
            go_wp2_with fail
            go_quiet (fail)
            go_wp2
            go_roundw
            case rel => exact ⟨j + 1, by omega, by go_num, by rw [HS.out], Below.drewN' hb3 _⟩
            case measure => simp [intOf]; omega
        · have e8 : j = m := by omega
          subst e8
          rw [HTA.out]
          have hst2 := hst1.below hb3
          have hb4 := hbr.trans (hb3.mono hbr.size)
          cases hin : isIn ks kd with
          | false =>
            clear hin
            go_wp2_with fail
            go_roundw
            case rel => exact ⟨k + 1, L1, P1, by omega, by go_num, hst2, hb4⟩
            case measure => simp [intOf]; omega
          | true =>
            have hsp := HSP.out _ _ _ _ _ _ hst2 kd xa xb hin
            have u0 := (hb3.cell (p := ⟨b, off + k * 3, none⟩) lb2).trans t0
            have u1 := (hb3.cell (p := ⟨b, off + k * 3 + 1, none⟩) lb2).trans t1
            have u2 := (hb3.cell (p := ⟨b, off + k * 3 + 2, none⟩) lb2).trans t2
            clear hin t0 t1 t2 HKC hb3 hbr hst1
            go_wp2_with fail
            refine hsp.mono ?_
            rintro e w4 ⟨rfl, ⟨L2, P2, hst4⟩, hb5⟩
            have hlk := looks_c hst4.law
            have hb6 := hb4.trans hb5
            clear hb5 hsp u0 u1 u2 hst2 hb4
            go_wp2_with fail
            refine hlk.mono ?_
            rintro e w5 ⟨rfl, rfl⟩
            clear hlk
            go_wp2_with fail
            go_roundw
            case rel => exact ⟨k + 1, L2, P2, by omega, by go_num, hst4, hb6⟩
            case measure => simp [intOf]; omega
    · have hlen : 1 ≤ L1.past.length := by have := hst1.rel.rel.lenle; omega
      have hag := agrees_c hst1.lawRep hst1.ref hst1.rel.rel.ok hlen (hst1.rel.rel.agree hst1.rel.ck.si hst1.prog)
      go_wp2_with fail
      refine hag.mono ?_
      rintro e w2 ⟨rfl, hb3⟩
      go_wp2
      go_ret
      exact ⟨rfl, hbr.trans (hb3.mono hbr.size)⟩


end Go.Proofs.Ytjnmpejcegmkhaa
