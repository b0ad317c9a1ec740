/- The contract of package prismkeep's find. No statement of the seat is proved here. -/
import Derived.Test.YtjnmpejcegmkhaaKeep2
namespace Go.Proofs.Ytjnmpejcegmkhaa
open Go.RowKit

/-- Where v stands in a list of numbers; -1: nowhere. -/
def findN (v : Int) : List Int → Nat → Int
  | [], _ => -1
  | x :: r, i => if x = v then (i : Int) else findN v r (i + 1)

theorem NodesRep.num_at {w : World} {b : Nat} {x : Value} {l : List (ND × Value × Value)} (h : NodesRep w b x l) : ∃ ao cap, x = .slice ao l.length cap ∧ l.length ≤ cap ∧ l.length ≤ maxLen ∧ cap ≤ maxLen ∧ ∀ i, (hi : i < l.length) → ∃ g, ao = some ⟨g, 0, none⟩ ∧ w.cell? ⟨g, i * 12, none⟩ = some (I (l[i]).1.num) := by
  obtain ⟨ao, cap, e1, c1, c2, c3, h2⟩ := ownsRow_cells h.row
  refine ⟨ao, cap, e1, c1, c2, c3, fun i hi => ?_⟩
  obtain ⟨g, e, _, c⟩ := h2 (i * 12 + 0) (I (l[i]).1.num) (by
    show (l.flatMap fun y => ndCells y.1 y.2.1 y.2.2)[i * 12 + 0]? = _
    rw [flat_at (fun y : ND × Value × Value => ndCells y.1 y.2.1 y.2.2) 12 (fun _ => rfl) l i hi 0 (by omega)]
    rfl)
  exact ⟨g, e, c⟩

set_option maxHeartbeats 2000000 in
theorem find_c {w : World} {b : Nat} {x : Value} {l : List (ND × Value × Value)} (h : NodesRep w b x l) (v : Int) :
    Calls Try.prog 20 #[x, I v] w fun e w' => e = .returned (I (findN v (l.map fun y => y.1.num) 0)) ∧ w' = w := by
  obtain ⟨ao, cap, rfl, c1, c2, c3, hc⟩ := h.num_at
  unfold maxLen at c2 c3
  clear h
  go_enter Try.func20, Try.ntmps20
  go_wp2_with fail
  go_loop [5] (fun i => ∃ k : Nat, k ≤ l.length ∧ i = .int .i64 k ∧ findN v (l.map fun y => y.1.num) 0 = findN v ((l.drop k).map fun y => y.1.num) k) (fun i => l.length - (intOf i).toNat)
  case atStart => exact ⟨0, Nat.zero_le _, rfl, rfl⟩
  case round =>
    obtain ⟨k, hk, rfl, hno⟩ := hrel
    have HNO : Hid _ := hno
    clear hno
    by_cases hlt : k < l.length
    · obtain ⟨g, rfl, c⟩ := hc k hlt
      have hdr : Hid ((l.drop k).map (fun y => y.1.num) = (l[k]).1.num :: (l.drop (k + 1)).map fun y => y.1.num) := by
        show _ = _
        rw [List.drop_eq_getElem_cons hlt, List.map_cons]
      clear hc
      generalize (l[k]).1.num = m at *
      by_cases hx : m = v
      · have b1 : (m == v) = true := by simp [hx]
        have HT : Hid (findN v (l.map fun y => y.1.num) 0 = (k : Int)) := by show _ = _; rw [HNO.out, hdr.out, findN, if_pos hx]
        clear HNO hdr hx
        go_wp2
        go_ret
        exact ⟨ret_i HT.out.symm, rfl⟩
      · have b1 : (m == v) = false := by simp [hx]
        have HS : Hid (findN v (l.map fun y => y.1.num) 0 = findN v ((l.drop (k + 1)).map fun y => y.1.num) (k + 1)) := by show _ = _; rw [HNO.out, hdr.out, findN, if_neg hx]
        clear HNO hdr hx
        go_wp2
        go_round
        case rel => exact ⟨k + 1, by omega, by go_num, HS.out⟩
        case measure => simp [intOf]; omega
    · have HE : Hid (findN v (l.map fun y => y.1.num) 0 = -1) := by
        show _ = _
        rw [HNO.out, List.drop_of_length_le (by omega)]
        rfl
      have hd : decide ((k : Int) < (l.length : Int)) = false := by simp; omega
      go_wp2
      go_ret
      exact ⟨ret_i HE.out.symm, rfl⟩

end Go.Proofs.Ytjnmpejcegmkhaa
