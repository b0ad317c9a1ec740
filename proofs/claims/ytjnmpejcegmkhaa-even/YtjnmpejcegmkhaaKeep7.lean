/- Contracts of package prismkeep's among and behind. No statement of the seat is proved here. -/
import Derived.Test.YtjnmpejcegmkhaaKeep1
namespace Go.Proofs.Ytjnmpejcegmkhaa
open Go.RowKit

def amongTo (v : Int) (xs : List Int) : Bool := xs.any fun x => x == v

set_option maxHeartbeats 2000000 in
theorem among_c (v : Int) (xs : List Int) (b : Nat) (w : World) (hb : w.heap[b]? = some (.cells (xs.map I).toArray 3 (0, 0))) (hl : xs.length ≤ 100) :
    Calls Try.prog 75 #[I v, .slice (some ⟨b, 0, none⟩) xs.length xs.length] w fun e w' => e = .returned (.bool (amongTo v xs)) ∧ w' = w := by
  have hc : ∀ k, (hk : k < xs.length) → w.cell? ⟨b, k, none⟩ = some (I xs[k]) := by
    intro k hk
    rw [(nb_facts hb).1 k]
    simp [hk]
  clear hb
  go_enter Try.func75, Try.ntmps75
  go_wp2_with fail
  go_loop [5] (fun i => ∃ k : Nat, k ≤ xs.length ∧ i = .int .i64 k ∧ amongTo v (xs.take k) = false) (fun i => xs.length - (intOf i).toNat)
  case atStart => exact ⟨0, Nat.zero_le _, rfl, rfl⟩
  case round =>
    obtain ⟨k, hk, rfl, hno⟩ := hrel
    have HNO : Hid _ := hno
    clear hno
    by_cases hlt : k < xs.length
    · have c := hc k hlt
      have hts : Hid (amongTo v (xs.take (k + 1)) = (amongTo v (xs.take k) || (xs[k] == v))) := by
        show _ = _
        unfold amongTo
        rw [take_succ_get xs k hlt, List.any_append]
        simp only [List.any_cons, List.any_nil, Bool.or_false]
      have hin : Hid ((xs[k] == v) = true → amongTo v xs = true) := by
        intro h
        unfold amongTo
        rw [List.any_eq_true]
        exact ⟨xs[k], List.getElem_mem hlt, h⟩
      generalize xs[k] = x at *
      cases hx : (x == v) with
      | true =>
        have HT : Hid (amongTo v xs = true) := hin.out hx
        clear hts hin HNO hc
        go_wp2
        go_ret
        exact ⟨by rw [HT.out]; rfl, rfl⟩
      | false =>
        have HS : Hid (amongTo v (xs.take (k + 1)) = false) := by rw [hts.out, HNO.out, hx]; rfl
        clear hts hin HNO hc
        go_wp2
        go_round
        case rel => exact ⟨k + 1, by omega, by go_num, HS.out⟩
        case measure => simp [intOf]; omega
    · have HE : Hid (amongTo v xs = false) := by
        have := HNO.out
        rw [List.take_of_length_le (by omega)] at this
        exact this
      have hd : decide ((k : Int) < (xs.length : Int)) = false := by simp; omega
      go_wp2
      go_ret
      exact ⟨by rw [HE.out]; rfl, rfl⟩

def behindL (ph : Int) : List Int :=
  if ph = 0 then [1] else if ph = 1 then [2, 3, 12, 19, 15, 0] else if ph = 2 then [0] else if ph = 3 then [4] else if ph = 4 then [5, 8, 11] else if ph = 5 then [6, 9] else if ph = 6 then [7, 6, 10] else if ph = 7 then [0, 19] else if ph = 8 then [0, 19, 9]
  else if ph = 9 then [11] else if ph = 10 then [11] else if ph = 11 then [0] else if ph = 12 then [19, 13, 14] else if ph = 13 then [19, 13] else if ph = 14 then [19, 14] else if ph = 15 then [16, 19, 20] else if ph = 16 then [17, 16, 18] else [19, 20]

set_option maxHeartbeats 4000000 in
set_option maxRecDepth 100000 in
theorem behind_c (ph : Int) (h0 : 0 ≤ ph) (h19 : ph ≤ 19) (w : World) :
    Calls Try.prog 74 #[I ph] w fun e w' => e = .returned (.slice (some ⟨w.heap.size, 0, none⟩) (behindL ph).length (behindL ph).length) ∧ w'.heap[w.heap.size]? = some (.cells ((behindL ph).map I).toArray 3 (0, 0)) ∧ Below w.heap.size w w' := by
  have hp : ph = 0 ∨ ph = 1 ∨ ph = 2 ∨ ph = 3 ∨ ph = 4 ∨ ph = 5 ∨ ph = 6 ∨ ph = 7 ∨ ph = 8 ∨ ph = 9 ∨ ph = 10 ∨ ph = 11 ∨ ph = 12 ∨ ph = 13 ∨ ph = 14 ∨ ph = 15 ∨ ph = 16 ∨ ph = 17 ∨ ph = 18 ∨ ph = 19 := by omega
  clear h0 h19
  rcases hp with rfl | rfl | rfl | rfl | rfl | rfl | rfl | rfl | rfl | rfl | rfl | rfl | rfl | rfl | rfl | rfl | rfl | rfl | rfl | rfl
  all_goals
    go_enter Try.func74, Try.ntmps74
    go_wp2
    go_ret
    exact ⟨rfl, nb_alloc _ _ _, (Below.refl _ _).alloc (Nat.le_refl _) _⟩

end Go.Proofs.Ytjnmpejcegmkhaa
