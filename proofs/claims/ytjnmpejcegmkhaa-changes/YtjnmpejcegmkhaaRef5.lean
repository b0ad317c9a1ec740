/- Contracts of package prismref's functions that only read, fifth part: waits, Live, Proc, Changes. No statement of the seat is proved here. -/
import Derived.Test.YtjnmpejcegmkhaaRef4
import Derived.Deep.QuietTactic
import Derived.BigQuiet
namespace Go.Proofs.Ytjnmpejcegmkhaa
open Go.RowKit

def waitP (v k : Int) (p : Pr) : Bool := decide (p.node = v) && decide (p.slot = k) && (decide (p.phase = 6) || decide (p.phase = 7))
def waitsL (v k : Int) : List (Nat × Pr) → Nat → Int
  | [], _ => -1
  | p :: r, i => if waitP v k p.2 then i else waitsL v k r (i + 1)

theorem drop_cons_get {α : Type} (l : List α) (k : Nat) (h : k < l.length) : l.drop k = l[k] :: l.drop (k + 1) := by
  rw [List.drop_eq_getElem_cons h]

set_option maxHeartbeats 2000000 in
theorem waits_c {w : World} {B : Nat} {L : Lay} (h : RefRep w B L) (v sl : Int) :
    Calls Try.prog 119 #[.pointer (some ⟨L.tb, 0, none⟩), I v, I sl] w fun e w' => e = .returned (I (waitsL v sl L.procs 0)) ∧ w' = w := by
  have h1 := h.pv_cell
  obtain ⟨ao, cap, e1, c1, c2, c3, h2⟩ := h.proc_at
  rw [e1] at h1
  clear e1
  have hp : ∀ i, (hi : i < L.procs.length) → w.cell? ⟨(L.procs[i]).1, 3, none⟩ = some (I (L.procs[i]).2.phase) ∧ w.cell? ⟨(L.procs[i]).1, 4, none⟩ = some (I (L.procs[i]).2.node) ∧ w.cell? ⟨(L.procs[i]).1, 7, none⟩ = some (I (L.procs[i]).2.slot) := fun i hi => ⟨by rw [h.pcell hi]; rfl, by rw [h.pcell hi]; rfl, by rw [h.pcell hi]; rfl⟩
  generalize hps : L.procs = ps at *
  generalize L.tb = tb at *
  unfold maxLen at c2 c3
  clear h
  go_enter Try.func119, Try.ntmps119
  go_wp2
  go_loop [7] (fun i => ∃ k : Nat, k ≤ ps.length ∧ waitsL v sl ps 0 = waitsL v sl (ps.drop k) k ∧ i = .int .i64 k) (fun i => ps.length - (intOf i).toNat)
  case atStart => exact ⟨0, Nat.zero_le _, rfl, rfl⟩
  case round =>
    obtain ⟨k, hk, hs, rfl⟩ := hrel
    by_cases hlt : k < ps.length
    · obtain ⟨g, rfl, g0⟩ := h2 k hlt
      obtain ⟨p3, p4, p7⟩ := hp k hlt
      have hts := drop_cons_get ps k hlt
      have HT : Hid (waitsL v sl ps 0 = if waitP v sl (ps[k]).2 then (k : Int) else waitsL v sl (ps.drop (k + 1)) (k + 1)) := by show _ = _; rw [hs, hts]; rfl
      clear hts hs h2 hp
      generalize hpk : ps[k] = p at *
      clear hpk
      have hno : waitP v sl p.2 = false → Hid (waitsL v sl ps 0 = waitsL v sl (ps.drop (k + 1)) (k + 1)) := fun hh => by show _ = _; rw [HT.out, hh]; simp
      have hyes : waitP v sl p.2 = true → Hid (waitsL v sl ps 0 = k) := fun hh => by show _ = _; rw [HT.out, hh]; simp
      by_cases hn : p.2.node = v
      · have b1 : (p.2.node == v) = true := by simp [hn]
        by_cases hk7 : p.2.slot = sl
        · have b2 : (p.2.slot == sl) = true := by simp [hk7]
          by_cases h6 : p.2.phase = 6
          · have b3 : (p.2.phase == 6) = true := by simp [h6]
            have HC := hyes (by simp [waitP, hn, hk7, h6])
            clear HT hn hk7 h6 hno hyes
            go_wp2
            go_ret
            exact ⟨by rw [HC.out]; rfl, rfl⟩
          · have b3 : (p.2.phase == 6) = false := by simp [h6]
            by_cases h7 : p.2.phase = 7
            · have b4 : (p.2.phase == 7) = true := by simp [h7]
              have HC := hyes (by simp [waitP, hn, hk7, h7])
              clear HT hn hk7 h6 h7 hno hyes
              go_wp2
              go_ret
              exact ⟨by rw [HC.out]; rfl, rfl⟩
            · have b4 : (p.2.phase == 7) = false := by simp [h7]
              have HC := hno (by simp [waitP, h6, h7])
              clear HT hn hk7 h6 h7 hno hyes
              go_wp2
              go_round
              case rel => exact ⟨k + 1, by omega, HC.out, by go_num⟩
              case measure => simp [intOf]; omega
        · have b2 : (p.2.slot == sl) = false := by simp [hk7]
          have HC := hno (by simp [waitP, hk7])
          clear HT hn hk7 hno hyes
          go_wp2
          go_round
          case rel => exact ⟨k + 1, by omega, HC.out, by go_num⟩
          case measure => simp [intOf]; omega
      · have b1 : (p.2.node == v) = false := by simp [hn]
        have HC := hno (by simp [waitP, hn])
        clear HT hn hno hyes
        go_wp2
        go_round
        case rel => exact ⟨k + 1, by omega, HC.out, by go_num⟩
        case measure => simp [intOf]; omega
    · have HC : Hid (waitsL v sl ps 0 = -1) := by show _ = _; rw [hs, List.drop_of_length_le (by omega)]; rfl
      clear hs
      go_wp2
      go_ret
      exact ⟨by rw [HC.out]; rfl, rfl⟩

def liveL : List (Nat × Pr) → Nat
  | [] => 0
  | p :: r => (if p.2.phase = 20 then 0 else 1) + liveL r
theorem liveL_append (a b : List (Nat × Pr)) : liveL (a ++ b) = liveL a + liveL b := by
  induction a with
  | nil => simp [liveL]
  | cons x a ih => simp [liveL, ih]; omega
theorem liveL_le (a : List (Nat × Pr)) : liveL a ≤ a.length := by
  induction a with
  | nil => simp [liveL]
  | cons x a ih => simp only [liveL, List.length_cons]; split <;> omega

set_option maxHeartbeats 2000000 in
theorem live_c {w : World} {B : Nat} {L : Lay} (h : RefRep w B L) :
    Calls Try.prog 92 #[.pointer (some ⟨L.tb, 0, none⟩)] w fun e w' => e = .returned (I (liveL L.procs)) ∧ w' = w := by
  have h1 := h.pv_cell
  obtain ⟨ao, cap, e1, c1, c2, c3, h2⟩ := h.proc_at
  rw [e1] at h1
  clear e1
  have hp : ∀ i, (hi : i < L.procs.length) → w.cell? ⟨(L.procs[i]).1, 3, none⟩ = some (I (L.procs[i]).2.phase) := fun i hi => by rw [h.pcell hi]; rfl
  generalize hps : L.procs = ps at *
  generalize L.tb = tb at *
  unfold maxLen at c2 c3
  clear h
  go_enter Try.func92, Try.ntmps92
  go_wp2
  go_loop [3, 4] (fun n i => ∃ k : Nat, k ≤ ps.length ∧ n = .int .i64 (liveL (ps.take k)) ∧ i = .int .i64 k) (fun _ i => ps.length - (intOf i).toNat)
  case atStart => exact ⟨0, Nat.zero_le _, rfl, rfl⟩
  case round =>
    obtain ⟨k, hk, rfl, rfl⟩ := hrel
    have hle := liveL_le (ps.take k)
    have hle2 : (ps.take k).length ≤ k := List.length_take_le _ _
    by_cases hlt : k < ps.length
    · obtain ⟨g, rfl, g0⟩ := h2 k hlt
      have hc := hp k hlt
      have hts := take_succ_get ps k hlt
      have HT : Hid (liveL (ps.take (k + 1)) = liveL (ps.take k) + if (ps[k]).2.phase = 20 then 0 else 1) := by show _ = _; rw [hts, liveL_append]; simp [liveL]
      clear hts h2 hp
      generalize hpk : ps[k] = p at *
      clear hpk
      by_cases hh : p.2.phase = 20
      · have b1 : (p.2.phase != 20) = false := by simp [hh]
        have HC : Hid (liveL (ps.take (k + 1)) = liveL (ps.take k)) := by show _ = _; rw [HT.out, if_pos hh]; rfl
        clear HT hh
        go_wp2
        go_round
        case rel => exact ⟨k + 1, by omega, int_of (by rw [HC.out]), by go_num⟩
        case measure => simp [intOf]; omega
      · have b1 : (p.2.phase != 20) = true := by simp [hh]
        have HC : Hid (liveL (ps.take (k + 1)) = liveL (ps.take k) + 1) := by show _ = _; rw [HT.out, if_neg hh]
        clear HT hh
        go_wp2
        go_round
        case rel => exact ⟨k + 1, by omega, int_of (by rw [HC.out]; omega), by go_num⟩
        case measure => simp [intOf]; omega
    · have HC : Hid (liveL ps = liveL (ps.take k)) := by show _ = _; rw [List.take_of_length_le (by omega)]
      go_wp2
      go_ret
      exact ⟨by rw [HC.out]; rfl, rfl⟩

def procV (L : Lay) (n : Int) : Value :=
  if 0 ≤ n ∧ n < L.procs.length then
    .tuple #[.agg #[I (L.procs.getD n.toNat (0, ⟨0, 0, 0, 0, 0, 0, 0, 0, 0, 0, 0, 0, 0⟩)).2.phase, I (L.procs.getD n.toNat (0, ⟨0, 0, 0, 0, 0, 0, 0, 0, 0, 0, 0, 0, 0⟩)).2.node, I (L.procs.getD n.toNat (0, ⟨0, 0, 0, 0, 0, 0, 0, 0, 0, 0, 0, 0, 0⟩)).2.val], I 0]
  else .tuple #[.agg #[I 0, I 0, I 0], I 5]

set_option maxHeartbeats 2000000 in
theorem rproc_c {w : World} {B : Nat} {L : Lay} (h : RefRep w B L) (n : Int) :
    Calls Try.prog 80 #[.pointer (some ⟨L.tb, 0, none⟩), I n] w fun e w' => e = .returned (procV L n) ∧ Below w.heap.size w w' := by
  have h1 := h.pv_cell
  obtain ⟨ao, cap, e1, c1, c2, c3, h2⟩ := h.proc_at
  rw [e1] at h1
  clear e1
  have l0 := h.size
  have HV : Hid (procV L n = if 0 ≤ n ∧ n < L.procs.length then
    .tuple #[.agg #[I (L.procs.getD n.toNat (0, ⟨0, 0, 0, 0, 0, 0, 0, 0, 0, 0, 0, 0, 0⟩)).2.phase, I (L.procs.getD n.toNat (0, ⟨0, 0, 0, 0, 0, 0, 0, 0, 0, 0, 0, 0, 0⟩)).2.node, I (L.procs.getD n.toNat (0, ⟨0, 0, 0, 0, 0, 0, 0, 0, 0, 0, 0, 0, 0⟩)).2.val], I 0]
  else .tuple #[.agg #[I 0, I 0, I 0], I 5]) := rfl
  generalize procV L n = V at *
  have hp : ∀ i, (hi : i < L.procs.length) → w.cell? ⟨(L.procs[i]).1, 3, none⟩ = some (I (L.procs[i]).2.phase) ∧ w.cell? ⟨(L.procs[i]).1, 4, none⟩ = some (I (L.procs[i]).2.node) ∧ w.cell? ⟨(L.procs[i]).1, 5, none⟩ = some (I (L.procs[i]).2.val) := fun i hi => ⟨by rw [h.pcell hi]; rfl, by rw [h.pcell hi]; rfl, by rw [h.pcell hi]; rfl⟩
  generalize hps : L.procs = ps at *
  generalize L.tb = tb at *
  unfold maxLen at c2 c3
  clear h
  by_cases hn : 0 ≤ n ∧ n < ps.length
  · obtain ⟨i, rfl⟩ := Int.eq_ofNat_of_zero_le hn.1
    have hi : i < ps.length := by omega
    have hV := HV.out
    rw [if_pos hn] at hV
    simp only [Int.toNat_natCast, List.getD_eq_getElem?_getD, List.getElem?_eq_getElem hi, Option.getD_some] at hV
    subst hV
    obtain ⟨g, rfl, g0⟩ := h2 i hi
    obtain ⟨p3, p4, p5⟩ := hp i hi
    have l1 := cell_lt g0
    have l2 := cell_lt p3
    clear HV hn h2 hp
    generalize ps[i] = p at *
    go_enter Try.func80, Try.ntmps80
    go_wp2
    go_region
    go_wp2
    exact bodyPost_ret (v := .tuple #[.agg #[I p.2.phase, I p.2.node, I p.2.val], I 0]) (by simp [results, Try.results80, go_sem]) rfl ⟨rfl, ((Below.refl _ _).alloc (Nat.le_refl _) _).drew⟩
  · have hV := HV.out
    rw [if_neg hn] at hV
    subst hV
    clear HV h2 hp
    by_cases h0 : n < 0
    · clear hn
      go_enter Try.func80, Try.ntmps80
      go_wp2
      exact bodyPost_ret (v := .tuple #[.agg #[I 0, I 0, I 0], I 5]) (by simp [results, Try.results80, go_sem]) rfl ⟨rfl, (Below.refl _ _).alloc (Nat.le_refl _) _⟩
    · have hge : (ps.length : Int) ≤ n := by omega
      clear hn
      have hd : decide (n < 0) = false := by simpa using h0
      go_enter Try.func80, Try.ntmps80
      go_wp2
      exact bodyPost_ret (v := .tuple #[.agg #[I 0, I 0, I 0], I 5]) (by simp [results, Try.results80, go_sem]) rfl ⟨rfl, (Below.refl _ _).alloc (Nat.le_refl _) _⟩

end Go.Proofs.Ytjnmpejcegmkhaa
