/- The walk of the statement Walks: for every configuration and script the call answers true, and what was there is as it was. -/
import Derived.Test.YtjnmpejcegmkhaaW13
import Derived.Test.YtjnmpejcegmkhaaW14
import Derived.Test.YtjnmpejcegmkhaaSpawns
namespace Go.Proofs.Ytjnmpejcegmkhaa
open Go.RowKit

/-- One step of a script of which Spawns of Inc, Put and Get, Steps, Proc and looks are played. -/
theorem wstep_any {w : World} {B : Nat} {c : Conf} {lb : Nat} {L : Lay} {P : PLay} (h : WSt w B c lb L P) (k a b : Int) (hk : k = 1 ∨ k = 2 ∨ k = 3 ∨ k = 8 ∨ k = 7 ∨ k = 11) :
    Calls Try.prog 33 #[.pointer (some ⟨lb, 0, none⟩), .agg #[I k, I a, I b]] w fun e w' => e = .returned (.bool true) ∧ (∃ L' P', WSt w' B c lb L' P') ∧ Below B w w' := by
  by_cases h7 : k = 7
  · subst h7
    exact (wstep_seven h a b).mono fun e w' ⟨he, hb⟩ => ⟨he, ⟨L, P, h.below hb⟩, hb.mono h.hB⟩
  · by_cases h11 : k = 11
    · subst h11
      exact (wstep_eleven h a b).mono fun e w' ⟨he, hb⟩ => ⟨he, ⟨L, P, h.below hb⟩, hb.mono h.hB⟩
    · by_cases h8 : k = 8
      · subst h8
        exact wstep_step h a b
      · exact wstep_spawn h k a b (by omega)

def wKinds : List Int := [1, 2, 3, 8, 7, 11]
theorem isInW_succ (k : Int) (j : Nat) (hj : j < 6) : isIn (wKinds.take (j + 1)) k = (isIn (wKinds.take j) k || (wKinds.getD j 0 == k)) := by
  rw [take_succ_get wKinds j hj]
  simp only [isIn, List.any_append, List.any_cons, List.any_nil, Bool.or_false, List.getD_eq_getElem?_getD]
  rw [List.getElem?_eq_getElem hj]
  rfl
theorem isInW_all (k : Int) (h : isIn wKinds k = true) : k = 1 ∨ k = 2 ∨ k = 3 ∨ k = 8 ∨ k = 7 ∨ k = 11 := by
  simp [isIn, wKinds] at h
  omega
theorem kindW_cell {w : World} {kb : Nat} (h : w.heap[kb]? = some (.cells #[I 1, I 2, I 3, I 8, I 7, I 11] 3 (0, 0))) (j : Nat) (hj : j < 6) : w.cell? ⟨kb, j, none⟩ = some (I (wKinds.getD j 0)) := by
  rw [block_cell h]
  have : j = 0 ∨ j = 1 ∨ j = 2 ∨ j = 3 ∨ j = 4 ∨ j = 5 := by omega
  rcases this with rfl | rfl | rfl | rfl | rfl | rfl <;> rfl

set_option maxHeartbeats 8000000 in
theorem plays_w (c : Conf) (w : World) (h : mayC c = true) (v : Value) (n : Nat) (l : Nat → Int × Int × Int) (hs : ScriptAt w v n l) (kb : Nat) (hkb : w.heap[kb]? = some (.cells #[I 1, I 2, I 3, I 8, I 7, I 11] 3 (0, 0))) :
    Calls Try.prog 14 #[confV c, v, .slice (some ⟨kb, 0, none⟩) 6 6] w fun e w' => e = .returned (.bool true) ∧ Below w.heap.size w w' := by
  have h1 := fun W => begin_yes c W h
  unfold confV at h1 ⊢
  have HM : Hid (mayC c = true) := h
  clear h
  replace h1 : Hid _ := h1
  obtain ⟨ao, cap, rfl, n1, n2, hcell⟩ := hs.form
  unfold maxLen at n2
  clear hs
  have lk := (Array.getElem?_eq_some_iff.1 hkb).1
  go_enter Try.func14, Try.ntmps14
  go_wp2_with fail
  refine (h1.out _).mono ?_
  rintro e w1 ⟨lb, L, P, rfl, hr, hrn, hp, hpn, hlb, _, hb1⟩
  have hb2 : Below w.heap.size w w1 := ((Below.refl _ _).alloc (Nat.le_refl _) _).trans (hb1.mono (by simp))
  have hst : WSt w1 w.heap.size c lb L P := ⟨hlb, hr.base (by simp), hp.base (by simp), wrel_new HM.out hrn hpn hp.len, hb2.size⟩
  clear hb1 h1 hlb hr hrn hp hpn
  go_wp2_with fail
  go_loopw [8, 9, 10, 11] (fun _ i _ _ wr => ∃ (k : Nat) (L : Lay) (P : PLay), k ≤ n ∧ i = .int .i64 k ∧ WSt wr w.heap.size c lb L P ∧ Below w.heap.size w wr) (fun _ i _ _ _ => n - (intOf i).toNat)
  case atStart => exact ⟨0, L, P, Nat.zero_le _, rfl, hst, hb2⟩
  case round =>
    obtain ⟨k, L1, P1, hk, rfl, hst1, hbr⟩ := hrel
    by_cases hlt : k < n
    · obtain ⟨b, off, rfl, lbk, s0, s1, s2⟩ := hcell k hlt
      have t0 := (hbr.cell (p := ⟨b, off + k * 3, none⟩) lbk).trans s0
      have t1 := (hbr.cell (p := ⟨b, off + k * 3 + 1, none⟩) lbk).trans s1
      have t2 := (hbr.cell (p := ⟨b, off + k * 3 + 2, none⟩) lbk).trans s2
      have lb2 : b < wr.heap.size := Nat.lt_of_lt_of_le lbk hbr.size
      have hkr := (hbr.block kb lk).trans hkb
      have lk2 := (Array.getElem?_eq_some_iff.1 hkr).1
      have HKC : Hid (∀ j, j < 6 → wr.cell? ⟨kb, j, none⟩ = some (I (wKinds.getD j 0))) := fun j hj => kindW_cell hkr j hj
      clear s0 s1 s2 hcell hkr
      generalize l k = q at *
      obtain ⟨kd, xa, xb⟩ := q
      simp only at t0 t1 t2
      go_wp2_with fail
      go_loopw [10, 11] (fun inn kk wr2 => ∃ j : Nat, j ≤ 6 ∧ kk = .int .i64 j ∧ inn = .bool (isIn (wKinds.take j) kd) ∧ Below wr.heap.size wr wr2) (fun _ kk _ => 6 - (intOf kk).toNat)
      case atStart => exact ⟨0, by omega, rfl, rfl, Below.refl _ _⟩
      case round =>
        obtain ⟨j, hj, rfl, rfl, hb3⟩ := hrel
        by_cases hj8 : j < 6
        · have hsu := isInW_succ kd j hj8
          have kc := (hb3.cell (p := ⟨kb, j, none⟩) lk2).trans (HKC.out j hj8)
          have tk := (hb3.cell (p := ⟨b, off + k * 3, none⟩) lb2).trans t0
          have hj8' : (j : Int) < 6 := by omega
          generalize wKinds.getD j 0 = kj at *
          cases hin : isIn (wKinds.take j) kd with
          | true =>
            rw [hin] at hsu
            have HS : Hid (isIn (wKinds.take (j + 1)) kd = true) := by rw [hsu]; rfl
            clear hsu hin
            go_wp2_with fail
            go_quiet (fail)
            go_wp2
            go_roundw
            case rel => exact ⟨j + 1, by omega, by go_num, by rw [HS.out], Below.drewN' hb3 _⟩
            case measure => simp [intOf]; omega
          | false =>
            rw [hin] at hsu
            have HS : Hid (isIn (wKinds.take (j + 1)) kd = (kj == kd)) := by rw [hsu]; rfl
            clear hsu hin
            go_wp2_with fail
            go_quiet (fail)
            go_wp2
            go_roundw
            case rel => exact ⟨j + 1, by omega, by go_num, by rw [HS.out], Below.drewN' hb3 _⟩
            case measure => simp [intOf]; omega
        · have e8 : j = 6 := by omega
          subst e8
          rw [show wKinds.take 6 = wKinds from rfl]
          have hst2 := hst1.below hb3
          have hb4 := hbr.trans (hb3.mono hbr.size)
          cases hin : isIn wKinds kd with
          | false =>
            clear hin
            go_wp2_with fail
            go_roundw
            case rel => exact ⟨k + 1, L1, P1, by omega, by go_num, hst2, hb4⟩
            case measure => simp [intOf]; omega
          | true =>
            have hsp := wstep_any hst2 kd xa xb (isInW_all kd hin)
            have u0 := (hb3.cell (p := ⟨b, off + k * 3, none⟩) lb2).trans t0
            have u1 := (hb3.cell (p := ⟨b, off + k * 3 + 1, none⟩) lb2).trans t1
            have u2 := (hb3.cell (p := ⟨b, off + k * 3 + 2, none⟩) lb2).trans t2
            clear hin t0 t1 t2 HKC hb3 hbr hst1
            go_wp2_with fail
            refine hsp.mono ?_
            rintro e w4 ⟨rfl, ⟨L2, P2, hst4⟩, hb5⟩
            have hlk := looks_c hst4.law
            have hb6 := hb4.trans hb5
            clear hb5 hsp u0 u1 u2 hst2 hb4
            go_wp2_with fail
            refine hlk.mono ?_
            rintro e w5 ⟨rfl, rfl⟩
            clear hlk
            go_wp2_with fail
            go_roundw
            case rel => exact ⟨k + 1, L2, P2, by omega, by go_num, hst4, hb6⟩
            case measure => simp [intOf]; omega
    · have hlen : 1 ≤ L1.past.length := by have := hst1.rel.lenle; omega
      have hag := agrees_c hst1.lawRep hst1.ref hst1.rel.ok hlen (hst1.rel.agree hst1.prog)
      go_wp2_with fail
      refine hag.mono ?_
      rintro e w2 ⟨rfl, hb3⟩
      go_wp2
      go_ret
      exact ⟨rfl, hbr.trans (hb3.mono hbr.size)⟩

set_option maxHeartbeats 4000000 in
theorem walks_walk (c : Conf) (w : World) (v : Value) (n : Nat) (l : Nat → Int × Int × Int) (hs : ScriptAt w v n l) : Calls Try.prog 5 #[confV c, v] w fun e w' => e = .returned (.bool true) ∧ Below w.heap.size w w' := by
  have h1 : ∀ W kb, Below w.heap.size w W → W.heap[kb]? = some (.cells #[I 1, I 2, I 3, I 8, I 7, I 11] 3 (0, 0)) → Calls Try.prog 14 #[confV c, v, .slice (some ⟨kb, 0, none⟩) 6 6] W fun e w' => e = .returned (.bool true) ∧ Below W.heap.size W w' := by
    intro W kb hb hk
    cases h : mayC c
    · obtain ⟨ao, cap, e, _⟩ := hs.form
      rw [e]
      exact plays_no c W h _ _ _ _ _ _
    · exact plays_w c W h v n l (hs.below hb) kb hk
  obtain ⟨ao, cap, rfl, _⟩ := hs.form
  unfold confV at h1 ⊢
  replace h1 : Hid _ := h1
  clear hs
  go_enter Try.func5, Try.ntmps5
  go_wp2_with fail
  have hb0 : Below w.heap.size w ((w.alloc (.cells #[I c.kind, I c.depth, I c.start, I c.slots, I c.width, I c.spin, I c.drain, I c.procs] 23)).alloc (.cells #[I 1, I 2, I 3, I 8, I 7, I 11] 3)) := ((Below.refl _ _).alloc (Nat.le_refl _) _).alloc (by simp) _
  refine (h1.out _ (w.heap.size + 1) hb0 (by
    have := nb_alloc (w.alloc (.cells #[I c.kind, I c.depth, I c.start, I c.slots, I c.width, I c.spin, I c.drain, I c.procs] 23)) #[I 1, I 2, I 3, I 8, I 7, I 11] 3
    simp only [World.size_alloc] at this
    exact this)).mono ?_
  rintro e w1 ⟨rfl, hb1⟩
  go_wp2
  go_ret
  exact ⟨rfl, hb0.trans (hb1.mono hb0.size)⟩

end Go.Proofs.Ytjnmpejcegmkhaa
