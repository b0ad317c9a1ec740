/- The contract of package prismkeep's refusal. No statement of the seat is proved here. -/
import Derived.Test.YtjnmpejcegmkhaaKeep2
import Derived.Deep.QuietTactic
import Derived.BigQuiet
namespace Go.Proofs.Ytjnmpejcegmkhaa
open Go.RowKit

/-- Whether a tree of this kind has this kind of operation (Inc, Put, Get). -/
def okW (ck kd : Int) : Bool := decide ((kd = 0 ∧ ck = 0) ∨ ((kd = 1 ∨ kd = 2) ∧ ck = 1))
/-- What Spawn of an Inc, a Put or a Get must answer. -/
def refusalW (P : PLay) (kd : Int) : Int := if okW P.c.kind kd = false then 2 else if 256 ≤ P.procs.length then 3 else if P.c.procs ≤ (pliveL P.procs : Int) then 4 else 0

theorem KRep.conf {w : World} {B hb : Nat} {P : PLay} {ops : List Op3} {went : List Bool} (h : KRep w B hb P ops went) : w.cell? ⟨hb, 1, none⟩ = some (I P.c.kind) ∧ w.cell? ⟨hb, 2, none⟩ = some (I P.c.depth) ∧ w.cell? ⟨hb, 8, none⟩ = some (I P.c.procs) ∧ ∃ ao cap, w.cell? ⟨hb, 9, none⟩ = some (.slice ao ops.length cap) ∧ ops.length ≤ cap ∧ ops.length ≤ maxLen ∧ cap ≤ maxLen := by
  obtain ⟨ov, wv, a, b, _⟩ := h.blk
  obtain ⟨ao, cap, e1, q1, q2, q3, _⟩ := ownsRow_cells b
  refine ⟨by rw [(nb_facts a).1 1]; rfl, by rw [(nb_facts a).1 2]; rfl, by rw [(nb_facts a).1 8]; rfl, ao, cap, ?_, q1, q2, q3⟩
  rw [(nb_facts a).1 9, ← e1]
  rfl

set_option maxHeartbeats 4000000 in
set_option maxRecDepth 100000 in
theorem krefusal_walk {w : World} {B hb : Nat} {P : PLay} {ops : List Op3} {went : List Bool} (h : KRep w B hb P ops went) (kd vl nd : Int) (hk : kd = 0 ∨ kd = 1 ∨ kd = 2) :
    Calls Try.prog 39 #[.pointer (some ⟨hb, 0, none⟩), .agg #[I kd, I vl, I nd]] w fun e w' => e = .returned (I (refusalW P kd)) ∧ Below w.heap.size w w' := by
  have hlv := fun W (hw : Below w.heap.size w W) => klive_c (h.below hw)
  obtain ⟨c1, c2, c8, ao, cap, c9, q1, q2, q3⟩ := h.conf
  have hlen := h.len
  rw [hlen] at c9 q1 q2
  have HF : Hid (∀ W, Below w.heap.size w W → W.cell? ⟨hb, 8, none⟩ = some (I P.c.procs) ∧ W.cell? ⟨hb, 9, none⟩ = some (.slice ao P.procs.length cap)) := fun W hw => ⟨(hw.cell (p := ⟨hb, 8, none⟩) (cell_lt c8)).trans c8, (hw.cell (p := ⟨hb, 9, none⟩) (cell_lt c9)).trans c9⟩
  have l0 := cell_lt c1
  unfold maxLen at q2 q3
  have HRF : Hid (∀ kd, refusalW P kd = if okW P.c.kind kd = false then 2 else if 256 ≤ P.procs.length then 3 else if P.c.procs ≤ (pliveL P.procs : Int) then 4 else 0) := fun _ => rfl
  generalize pliveL P.procs = lv at *
  generalize P.procs.length = np at *
  generalize P.c.kind = ck at *
  generalize P.c.procs = cp at *
  replace hlv : Hid _ := hlv
  clear h hlen
  rcases hk with rfl | rfl | rfl
  · by_cases hc : ck = 0
    · have bc : (ck == 0) = true := by simp [hc]
      have HR : Hid (refusalW P 0 = if 256 ≤ np then 3 else if cp ≤ (lv : Int) then 4 else 0) := by show _ = _; rw [HRF.out 0]; simp [okW, hc]
      rw [HR.out]
      clear HRF hc
      by_cases h3 : 256 ≤ np
      · rw [if_pos h3]
        have hi3 : decide ((256 : Int) ≤ (np : Int)) = true := by simp; omega
        clear h3
        go_enter Try.func39, Try.ntmps39
        go_wp2_with fail
        refine Calls.mono (hlv.out _ ((Below.refl _ _).alloc (Nat.le_refl _) _)) ?_
        rintro e w1 ⟨rfl, hb1⟩
        have hb2 : Below w.heap.size w w1 := ((Below.refl _ _).alloc (Nat.le_refl _) _).trans (hb1.mono (by simp))
        obtain ⟨g8, g9⟩ := HF.out w1 hb2
        clear hb1 c8 c9 HF
        go_wp2
        go_ret
        exact ⟨rfl, hb2⟩
      · rw [if_neg h3]
        have hd3 : decide ((256 : Int) ≤ (np : Int)) = false := by simp; omega
        clear h3
        by_cases h4 : cp ≤ (lv : Int)
        · rw [if_pos h4]
          go_enter Try.func39, Try.ntmps39
          go_wp2_with fail
          refine Calls.mono (hlv.out _ ((Below.refl _ _).alloc (Nat.le_refl _) _)) ?_
          rintro e w1 ⟨rfl, hb1⟩
          have hb2 : Below w.heap.size w w1 := ((Below.refl _ _).alloc (Nat.le_refl _) _).trans (hb1.mono (by simp))
          obtain ⟨g8, g9⟩ := HF.out w1 hb2
          clear hb1 c8 c9 HF
          go_wp2
          go_ret
          exact ⟨rfl, hb2⟩
        · rw [if_neg h4]
          have hd4 : decide (cp ≤ (lv : Int)) = false := by simp; omega
          go_enter Try.func39, Try.ntmps39
          go_wp2_with fail
          refine Calls.mono (hlv.out _ ((Below.refl _ _).alloc (Nat.le_refl _) _)) ?_
          rintro e w1 ⟨rfl, hb1⟩
          have hb2 : Below w.heap.size w w1 := ((Below.refl _ _).alloc (Nat.le_refl _) _).trans (hb1.mono (by simp))
          obtain ⟨g8, g9⟩ := HF.out w1 hb2
          clear hb1 c8 c9 HF
          go_wp2
          go_ret
          exact ⟨rfl, hb2⟩
    · have bc : (ck == 0) = false := by simp [hc]
      have HR : Hid (refusalW P 0 = 2) := by show _ = _; rw [HRF.out 0]; simp [okW, hc]
      rw [HR.out]
      clear HRF hc
      go_enter Try.func39, Try.ntmps39
      go_wp2_with fail
      refine Calls.mono (hlv.out _ ((Below.refl _ _).alloc (Nat.le_refl _) _)) ?_
      rintro e w1 ⟨rfl, hb1⟩
      have hb2 : Below w.heap.size w w1 := ((Below.refl _ _).alloc (Nat.le_refl _) _).trans (hb1.mono (by simp))
      obtain ⟨g8, g9⟩ := HF.out w1 hb2
      clear hb1 c8 c9 HF
      go_wp2
      go_ret
      exact ⟨rfl, hb2⟩
  · by_cases hc : ck = 1
    · have bc : (ck == 1) = true := by simp [hc]
      have HR : Hid (refusalW P 1 = if 256 ≤ np then 3 else if cp ≤ (lv : Int) then 4 else 0) := by show _ = _; rw [HRF.out 1]; simp [okW, hc]
      rw [HR.out]
      clear HRF hc
      by_cases h3 : 256 ≤ np
      · rw [if_pos h3]
        have hi3 : decide ((256 : Int) ≤ (np : Int)) = true := by simp; omega
        clear h3
        go_enter Try.func39, Try.ntmps39
        go_wp2_with fail
        refine Calls.mono (hlv.out _ ((Below.refl _ _).alloc (Nat.le_refl _) _)) ?_
        rintro e w1 ⟨rfl, hb1⟩
        have hb2 : Below w.heap.size w w1 := ((Below.refl _ _).alloc (Nat.le_refl _) _).trans (hb1.mono (by simp))
        obtain ⟨g8, g9⟩ := HF.out w1 hb2
        clear hb1 c8 c9 HF
        go_wp2
        go_ret
        exact ⟨rfl, hb2⟩
      · rw [if_neg h3]
        have hd3 : decide ((256 : Int) ≤ (np : Int)) = false := by simp; omega
        clear h3
        by_cases h4 : cp ≤ (lv : Int)
        · rw [if_pos h4]
          go_enter Try.func39, Try.ntmps39
          go_wp2_with fail
          refine Calls.mono (hlv.out _ ((Below.refl _ _).alloc (Nat.le_refl _) _)) ?_
          rintro e w1 ⟨rfl, hb1⟩
          have hb2 : Below w.heap.size w w1 := ((Below.refl _ _).alloc (Nat.le_refl _) _).trans (hb1.mono (by simp))
          obtain ⟨g8, g9⟩ := HF.out w1 hb2
          clear hb1 c8 c9 HF
          go_wp2
          go_ret
          exact ⟨rfl, hb2⟩
        · rw [if_neg h4]
          have hd4 : decide (cp ≤ (lv : Int)) = false := by simp; omega
          go_enter Try.func39, Try.ntmps39
          go_wp2_with fail
          refine Calls.mono (hlv.out _ ((Below.refl _ _).alloc (Nat.le_refl _) _)) ?_
          rintro e w1 ⟨rfl, hb1⟩
          have hb2 : Below w.heap.size w w1 := ((Below.refl _ _).alloc (Nat.le_refl _) _).trans (hb1.mono (by simp))
          obtain ⟨g8, g9⟩ := HF.out w1 hb2
          clear hb1 c8 c9 HF
          go_wp2
          go_ret
          exact ⟨rfl, hb2⟩
    · have bc : (ck == 1) = false := by simp [hc]
      have HR : Hid (refusalW P 1 = 2) := by show _ = _; rw [HRF.out 1]; simp [okW, hc]
      rw [HR.out]
      clear HRF hc
      go_enter Try.func39, Try.ntmps39
      go_wp2_with fail
      refine Calls.mono (hlv.out _ ((Below.refl _ _).alloc (Nat.le_refl _) _)) ?_
      rintro e w1 ⟨rfl, hb1⟩
      have hb2 : Below w.heap.size w w1 := ((Below.refl _ _).alloc (Nat.le_refl _) _).trans (hb1.mono (by simp))
      obtain ⟨g8, g9⟩ := HF.out w1 hb2
      clear hb1 c8 c9 HF
      go_wp2
      go_ret
      exact ⟨rfl, hb2⟩
  · by_cases hc : ck = 1
    · have bc : (ck == 1) = true := by simp [hc]
      have HR : Hid (refusalW P 2 = if 256 ≤ np then 3 else if cp ≤ (lv : Int) then 4 else 0) := by show _ = _; rw [HRF.out 2]; simp [okW, hc]
      rw [HR.out]
      clear HRF hc
      by_cases h3 : 256 ≤ np
      · rw [if_pos h3]
        have hi3 : decide ((256 : Int) ≤ (np : Int)) = true := by simp; omega
        clear h3
        go_enter Try.func39, Try.ntmps39
        go_wp2_with fail
        refine Calls.mono (hlv.out _ ((Below.refl _ _).alloc (Nat.le_refl _) _)) ?_
        rintro e w1 ⟨rfl, hb1⟩
        have hb2 : Below w.heap.size w w1 := ((Below.refl _ _).alloc (Nat.le_refl _) _).trans (hb1.mono (by simp))
        obtain ⟨g8, g9⟩ := HF.out w1 hb2
        clear hb1 c8 c9 HF
        go_wp2
        go_ret
        exact ⟨rfl, hb2⟩
      · rw [if_neg h3]
        have hd3 : decide ((256 : Int) ≤ (np : Int)) = false := by simp; omega
        clear h3
        by_cases h4 : cp ≤ (lv : Int)
        · rw [if_pos h4]
          go_enter Try.func39, Try.ntmps39
          go_wp2_with fail
          refine Calls.mono (hlv.out _ ((Below.refl _ _).alloc (Nat.le_refl _) _)) ?_
          rintro e w1 ⟨rfl, hb1⟩
          have hb2 : Below w.heap.size w w1 := ((Below.refl _ _).alloc (Nat.le_refl _) _).trans (hb1.mono (by simp))
          obtain ⟨g8, g9⟩ := HF.out w1 hb2
          clear hb1 c8 c9 HF
          go_wp2
          go_ret
          exact ⟨rfl, hb2⟩
        · rw [if_neg h4]
          have hd4 : decide (cp ≤ (lv : Int)) = false := by simp; omega
          go_enter Try.func39, Try.ntmps39
          go_wp2_with fail
          refine Calls.mono (hlv.out _ ((Below.refl _ _).alloc (Nat.le_refl _) _)) ?_
          rintro e w1 ⟨rfl, hb1⟩
          have hb2 : Below w.heap.size w w1 := ((Below.refl _ _).alloc (Nat.le_refl _) _).trans (hb1.mono (by simp))
          obtain ⟨g8, g9⟩ := HF.out w1 hb2
          clear hb1 c8 c9 HF
          go_wp2
          go_ret
          exact ⟨rfl, hb2⟩
    · have bc : (ck == 1) = false := by simp [hc]
      have HR : Hid (refusalW P 2 = 2) := by show _ = _; rw [HRF.out 2]; simp [okW, hc]
      rw [HR.out]
      clear HRF hc
      go_enter Try.func39, Try.ntmps39
      go_wp2_with fail
      refine Calls.mono (hlv.out _ ((Below.refl _ _).alloc (Nat.le_refl _) _)) ?_
      rintro e w1 ⟨rfl, hb1⟩
      have hb2 : Below w.heap.size w w1 := ((Below.refl _ _).alloc (Nat.le_refl _) _).trans (hb1.mono (by simp))
      obtain ⟨g8, g9⟩ := HF.out w1 hb2
      clear hb1 c8 c9 HF
      go_wp2
      go_ret
      exact ⟨rfl, hb2⟩

end Go.Proofs.Ytjnmpejcegmkhaa
