/- The walk of the statement Spawns. -/
import Derived.Test.YtjnmpejcegmkhaaSp3
import Derived.Test.YtjnmpejcegmkhaaNews
import Derived.Deep.QuietTactic
import Derived.BigQuiet
namespace Go.Proofs.Ytjnmpejcegmkhaa
open Go.RowKit

/-- A script as it lies in memory: n steps of three numbers each. -/
structure ScriptAt (w : World) (v : Value) (n : Nat) (l : Nat → Int × Int × Int) : Prop where
  form : ∃ ao cap, v = .slice ao n cap ∧ n ≤ cap ∧ n ≤ maxLen ∧ ∀ i, i < n → ∃ b off, ao = some ⟨b, off, none⟩ ∧ b < w.heap.size ∧
    w.cell? ⟨b, off + i * 3, none⟩ = some (I (l i).1) ∧ w.cell? ⟨b, off + i * 3 + 1, none⟩ = some (I (l i).2.1) ∧ w.cell? ⟨b, off + i * 3 + 2, none⟩ = some (I (l i).2.2)

/-- One step of a script of which only Spawns, Proc and looks are played. -/
theorem step_any {w : World} {B : Nat} {c : Conf} {lb : Nat} {L : Lay} {P : PLay} (h : SpSt w B c lb L P) (k a b : Int) (hk : k = 1 ∨ k = 2 ∨ k = 3 ∨ k = 4 ∨ k = 5 ∨ k = 6 ∨ k = 7 ∨ k = 11) :
    Calls Try.prog 33 #[.pointer (some ⟨lb, 0, none⟩), .agg #[I k, I a, I b]] w fun e w' => e = .returned (.bool true) ∧ (∃ L' P', SpSt w' B c lb L' P') ∧ Below B w w' := by
  by_cases h7 : k = 7
  · subst h7
    exact (step_seven h a b).mono fun e w' ⟨he, hb⟩ => ⟨he, ⟨L, P, h.below hb⟩, hb.mono h.hB⟩
  · by_cases h11 : k = 11
    · subst h11
      exact (step_eleven h a b).mono fun e w' ⟨he, hb⟩ => ⟨he, ⟨L, P, h.below hb⟩, hb.mono h.hB⟩
    · exact step_spawn h k a b (by omega)

def isIn (ks : List Int) (k : Int) : Bool := ks.any fun x => x == k
def spKinds : List Int := [1, 2, 3, 4, 5, 6, 7, 11]
theorem isIn_succ (k : Int) (j : Nat) (hj : j < 8) : isIn (spKinds.take (j + 1)) k = (isIn (spKinds.take j) k || (spKinds.getD j 0 == k)) := by
  rw [take_succ_get spKinds j hj]
  simp only [isIn, List.any_append, List.any_cons, List.any_nil, Bool.or_false, List.getD_eq_getElem?_getD]
  rw [List.getElem?_eq_getElem hj]
  rfl
theorem isIn_all (k : Int) (h : isIn spKinds k = true) : k = 1 ∨ k = 2 ∨ k = 3 ∨ k = 4 ∨ k = 5 ∨ k = 6 ∨ k = 7 ∨ k = 11 := by
  simp [isIn, spKinds] at h
  omega
theorem kind_cell {w : World} {kb : Nat} (h : w.heap[kb]? = some (.cells #[I 1, I 2, I 3, I 4, I 5, I 6, I 7, I 11] 3 (0, 0))) (j : Nat) (hj : j < 8) : w.cell? ⟨kb, j, none⟩ = some (I (spKinds.getD j 0)) := by
  rw [block_cell h]
  have : j = 0 ∨ j = 1 ∨ j = 2 ∨ j = 3 ∨ j = 4 ∨ j = 5 ∨ j = 6 ∨ j = 7 := by omega
  rcases this with rfl | rfl | rfl | rfl | rfl | rfl | rfl | rfl <;> rfl

set_option maxHeartbeats 8000000 in
theorem plays_sp (c : Conf) (w : World) (h : mayC c = true) (v : Value) (n : Nat) (l : Nat → Int × Int × Int) (hs : ScriptAt w v n l) (kb : Nat) (hkb : w.heap[kb]? = some (.cells #[I 1, I 2, I 3, I 4, I 5, I 6, I 7, I 11] 3 (0, 0))) :
    Calls Try.prog 14 #[confV c, v, .slice (some ⟨kb, 0, none⟩) 8 8] w fun e w' => e = .returned (.bool true) ∧ Below w.heap.size w w' := by
  have h1 := fun W => begin_yes c W h
  unfold confV at h1 ⊢
  have HM : Hid (mayC c = true) := h
  clear h
  replace h1 : Hid _ := h1
  obtain ⟨ao, cap, rfl, n1, n2, hcell⟩ := hs.form
  unfold maxLen at n2
  clear hs
  have lk := (Array.getElem?_eq_some_iff.1 hkb).1
  go_enter Try.func14, Try.ntmps14
  go_wp2_with fail
  refine (h1.out _).mono ?_
  rintro e w1 ⟨lb, L, P, rfl, hr, hrn, hp, hpn, hlb, _, hb1⟩
  have hb2 : Below w.heap.size w w1 := ((Below.refl _ _).alloc (Nat.le_refl _) _).trans (hb1.mono (by simp))
  have hst : SpSt w1 w.heap.size c lb L P := ⟨hlb, hr.base (by simp), hp.base (by simp), ⟨HM.out, hrn.conf, hpn.conf, hrn.len, hrn.hist, hrn.hist0, hpn.nodes, by rw [hpn.procs, hrn.procs]; rfl, by rw [hrn.procs]; simp, by rw [hrn.procs]; have := HM.out; simp [mayC] at this; simp; omega, by rw [hrn.procs]; simp, fun i hi => by rw [hrn.procs] at hi; simp at hi⟩, hb2.size⟩
  clear hb1 h1 hlb hr hrn hp hpn
  go_wp2_with fail
  go_loopw [8, 9, 10, 11] (fun _ i _ _ wr => ∃ (k : Nat) (L : Lay) (P : PLay), k ≤ n ∧ i = .int .i64 k ∧ SpSt wr w.heap.size c lb L P ∧ Below w.heap.size w wr) (fun _ i _ _ _ => n - (intOf i).toNat)
  case atStart => exact ⟨0, L, P, Nat.zero_le _, rfl, hst, hb2⟩
  case round =>
    obtain ⟨k, L1, P1, hk, rfl, hst1, hbr⟩ := hrel
    by_cases hlt : k < n
    · obtain ⟨b, off, rfl, lbk, s0, s1, s2⟩ := hcell k hlt
      have t0 := (hbr.cell (p := ⟨b, off + k * 3, none⟩) lbk).trans s0
      have t1 := (hbr.cell (p := ⟨b, off + k * 3 + 1, none⟩) lbk).trans s1
      have t2 := (hbr.cell (p := ⟨b, off + k * 3 + 2, none⟩) lbk).trans s2
      have lb2 : b < wr.heap.size := Nat.lt_of_lt_of_le lbk hbr.size
      have hkr := (hbr.block kb lk).trans hkb
      have lk2 := (Array.getElem?_eq_some_iff.1 hkr).1
      have HKC : Hid (∀ j, j < 8 → wr.cell? ⟨kb, j, none⟩ = some (I (spKinds.getD j 0))) := fun j hj => kind_cell hkr j hj
      clear s0 s1 s2 hcell hkr
      generalize l k = q at *
      obtain ⟨kd, xa, xb⟩ := q
      simp only at t0 t1 t2
      go_wp2_with fail
      go_loopw [10, 11] (fun inn kk wr2 => ∃ j : Nat, j ≤ 8 ∧ kk = .int .i64 j ∧ inn = .bool (isIn (spKinds.take j) kd) ∧ Below wr.heap.size wr wr2) (fun _ kk _ => 8 - (intOf kk).toNat)
      case atStart => exact ⟨0, by omega, rfl, rfl, Below.refl _ _⟩
      case round =>
        obtain ⟨j, hj, rfl, rfl, hb3⟩ := hrel
        by_cases hj8 : j < 8
        · have hsu := isIn_succ kd j hj8
          have kc := (hb3.cell (p := ⟨kb, j, none⟩) lk2).trans (HKC.out j hj8)
          have tk := (hb3.cell (p := ⟨b, off + k * 3, none⟩) lb2).trans t0
          have hj8' : (j : Int) < 8 := by omega
          generalize spKinds.getD j 0 = kj at *
          cases hin : isIn (spKinds.take j) kd with
          | true =>
            rw [hin] at hsu
            have HS : Hid (isIn (spKinds.take (j + 1)) kd = true) := by rw [hsu]; rfl
            clear hsu hin
            go_wp2_with fail
            go_quiet (fail)
            go_wp2
            go_roundw
            case rel => exact ⟨j + 1, by omega, by go_num, by rw [HS.out], Below.drewN' hb3 _⟩
            case measure => simp [intOf]; omega
          | false =>
            rw [hin] at hsu
            have HS : Hid (isIn (spKinds.take (j + 1)) kd = (kj == kd)) := by rw [hsu]; rfl
            clear hsu hin
            go_wp2_with fail
            go_quiet (fail)
            go_wp2
            go_roundw
            case rel => exact ⟨j + 1, by omega, by go_num, by rw [HS.out], Below.drewN' hb3 _⟩
            case measure => simp [intOf]; omega
        · have e8 : j = 8 := by omega
          subst e8
          rw [show spKinds.take 8 = spKinds from rfl]
          have hst2 := hst1.below hb3
          have hb4 := hbr.trans (hb3.mono hbr.size)
          cases hin : isIn spKinds kd with
          | false =>
            clear hin
            go_wp2_with fail
            go_roundw
            case rel => exact ⟨k + 1, L1, P1, by omega, by go_num, hst2, hb4⟩
            case measure => simp [intOf]; omega
          | true =>
            have hsp := step_any hst2 kd xa xb (isIn_all kd hin)
            have u0 := (hb3.cell (p := ⟨b, off + k * 3, none⟩) lb2).trans t0
            have u1 := (hb3.cell (p := ⟨b, off + k * 3 + 1, none⟩) lb2).trans t1
            have u2 := (hb3.cell (p := ⟨b, off + k * 3 + 2, none⟩) lb2).trans t2
            clear hin t0 t1 t2 HKC hb3 hbr hst1
            go_wp2_with fail
            refine hsp.mono ?_
            rintro e w4 ⟨rfl, ⟨L2, P2, hst4⟩, hb5⟩
            have hlk := looks_c hst4.law
            have hb6 := hb4.trans hb5
            clear hb5 hsp u0 u1 u2 hst2 hb4
            go_wp2_with fail
            refine hlk.mono ?_
            rintro e w5 ⟨rfl, rfl⟩
            clear hlk
            go_wp2_with fail
            go_roundw
            case rel => exact ⟨k + 1, L2, P2, by omega, by go_num, hst4, hb6⟩
            case measure => simp [intOf]; omega
    · have hlen : 1 ≤ L1.past.length := by rw [hst1.rel.len]; exact Nat.two_pow_pos _
      have hag := agrees_c hst1.lawRep hst1.ref (sp_ok hst1.rel) hlen (sp_agree hst1.rel hst1.prog)
      go_wp2_with fail
      refine hag.mono ?_
      rintro e w2 ⟨rfl, hb3⟩
      go_wp2
      go_ret
      exact ⟨rfl, hbr.trans (hb3.mono hbr.size)⟩

end Go.Proofs.Ytjnmpejcegmkhaa
