/- Contracts of package prismref's functions that only read, second part: many, width, from, toggle, puts, gets. No statement of the seat is proved here. -/
import Derived.Test.YtjnmpejcegmkhaaRef1
import Derived.Deep.QuietTactic
import Derived.BigQuiet
namespace Go.Proofs.Ytjnmpejcegmkhaa
open Go.RowKit

set_option maxHeartbeats 1000000 in
theorem many_c {w : World} {B : Nat} {L : Lay} (h : RefRep w B L) (v : Nat) (hv : v < L.past.length) (what n : Int) :
    Calls Try.prog 108 #[.pointer (some ⟨L.tb, 0, none⟩), I v, I what, I n] w fun e w' => e = .returned (I (manyH what n (L.hist v))) ∧ w' = w := by
  have h1 := h.hv_cell
  obtain ⟨hb, cap, e1, c1, c2, h2⟩ := h.past_at hv
  obtain ⟨ao, lc, e2, c3, c4, h3⟩ := h.hist_at hv
  rw [e1] at h1
  rw [e2] at h2
  clear e1 e2
  generalize L.hist v = l at *
  generalize L.past.length = pl at *
  generalize L.tb = tb at *
  unfold maxLen at c2 c4
  have H3 := h3
  clear h h3
  go_enter Try.func108, Try.ntmps108
  go_wp2
  go_loop [10, 11] (fun k i => ∃ (a r : Hist) (m : Nat), l = a ++ r ∧ m + r.length ≤ l.length ∧ manyH what n l = m + manyH what n r ∧ k = .int .i64 m ∧ i = .int .i64 (r.length - 1)) (fun _ i => (intOf i + 1).toNat)
  case atStart => exact ⟨[], l, 0, rfl, by simp, by simp, rfl, rfl⟩
  case round =>
    obtain ⟨a, r, m, rfl, hm, hs, rfl, rfl⟩ := hrel
    cases r with
    | nil =>
      go_wp2
      go_ret
      exact ⟨by simp_all [manyH], rfl⟩
    | cons e r =>
      obtain ⟨lb, rfl, g0, g1, g2, g3⟩ := H3 a e r rfl
      clear g2 g3 H3
      have hl : r.length + 1 ≤ (a ++ e :: r).length := by simp
      have HS : Hid (manyH what n (a ++ e :: r) = m + manyH what n (e :: r)) := hs
      clear hs
      rw [show (((e :: r).length : Nat) : Int) - 1 = r.length from by simp]
      have hm' : m + (r.length + 1) ≤ (a ++ e :: r).length := by simpa using hm
      clear hm
      generalize hll : (a ++ e :: r).length = ll at *
      have HLL : Hid ((a ++ e :: r).length = ll) := hll
      clear hll
      by_cases hw : 3 < e.1.what
      · have HR : Hid (manyH what n (e :: r) = (if e.1.what = what ∧ (n < 0 ∨ e.1.n = n) then 1 else 0) + manyH what n r) := by
          show manyH what n (e :: r) = _; simp [manyH, hw]
        by_cases hwh : e.1.what = what
        · have b1 : (e.1.what == what) = true := by simp [hwh]
          have HW := hwh
          by_cases hn : n < 0
          · have HC : Hid (manyH what n (a ++ e :: r) = (m + 1 : Nat) + manyH what n r) := by show _ = _; rw [HS.out, HR.out, if_pos ⟨hwh, Or.inl hn⟩]; omega
            clear hwh HW
            go_wp2
            go_round
            case rel => exact ⟨a ++ [e], r, m + 1, by simp, by omega, HC.out, by go_num, by go_num⟩
            case measure => simp [intOf]
          · by_cases hen : e.1.n = n
            · have b2 : (e.1.n == n) = true := by simp [hen]
              have HC : Hid (manyH what n (a ++ e :: r) = (m + 1 : Nat) + manyH what n r) := by show _ = _; rw [HS.out, HR.out, if_pos ⟨hwh, Or.inr hen⟩]; omega
              clear hwh HW hen
              go_wp2
              go_round
              case rel => exact ⟨a ++ [e], r, m + 1, by simp, by omega, HC.out, by go_num, by go_num⟩
              case measure => simp [intOf]
            · have b2 : (e.1.n == n) = false := by simp [hen]
              have HC : Hid (manyH what n (a ++ e :: r) = m + manyH what n r) := by show _ = _; rw [HS.out, HR.out, if_neg (by intro hh; rcases hh.2 with h' | h' <;> omega)]; omega
              clear hwh HW hen
              go_wp2
              go_round
              case rel => exact ⟨a ++ [e], r, m, by simp, by omega, HC.out, by go_num, by go_num⟩
              case measure => simp [intOf]
        · have b1 : (e.1.what == what) = false := by simp [hwh]
          have HC : Hid (manyH what n (a ++ e :: r) = m + manyH what n r) := by show _ = _; rw [HS.out, HR.out, if_neg (by intro hh; exact hwh hh.1)]; omega
          clear hwh
          go_wp2
          go_round
          case rel => exact ⟨a ++ [e], r, m, by simp, by omega, HC.out, by go_num, by go_num⟩
          case measure => simp [intOf]
      · have hd : decide (3 < e.1.what) = false := by simpa using hw
        have HC : Hid (manyH what n (a ++ e :: r) = m) := by show _ = _; rw [HS.out]; simp [manyH, hw]
        go_wp2
        go_ret
        exact ⟨by rw [HC.out]; rfl, rfl⟩

set_option maxHeartbeats 1000000 in
theorem width_c {w : World} {B : Nat} {L : Lay} (h : RefRep w B L) (v : Nat) (hv : v < L.past.length) :
    Calls Try.prog 118 #[.pointer (some ⟨L.tb, 0, none⟩), I v] w fun e w' => e = .returned (I (widthH (L.hist v))) ∧ w' = w := by
  have h1 := h.hv_cell
  obtain ⟨hb, cap, e1, c1, c2, h2⟩ := h.past_at hv
  obtain ⟨ao, lc, e2, c3, c4, h3⟩ := h.hist_at hv
  rw [e1] at h1
  rw [e2] at h2
  clear e1 e2
  generalize L.hist v = l at *
  generalize L.past.length = pl at *
  generalize L.tb = tb at *
  unfold maxLen at c2 c4
  have H3 := h3
  clear h h3
  go_enter Try.func118, Try.ntmps118
  go_wp2
  go_loop [6] (fun i => ∃ (a r : Hist), l = a ++ r ∧ widthH l = widthH r ∧ i = .int .i64 (r.length - 1)) (fun i => (intOf i + 1).toNat)
  case atStart => exact ⟨[], l, rfl, rfl, rfl⟩
  case round =>
    obtain ⟨a, r, rfl, hs, rfl⟩ := hrel
    cases r with
    | nil =>
      go_wp2
      go_ret
      exact ⟨by simp_all [widthH], rfl⟩
    | cons e r =>
      obtain ⟨lb, rfl, g0, g1, g2, g3⟩ := H3 a e r rfl
      clear g2 g3 H3
      have hl : r.length + 1 ≤ (a ++ e :: r).length := by simp
      have HS : Hid (widthH (a ++ e :: r) = widthH (e :: r)) := hs
      clear hs
      rw [show (((e :: r).length : Nat) : Int) - 1 = r.length from by simp]
      generalize (a ++ e :: r).length = ll at *
      by_cases hw : 3 < e.1.what
      · by_cases h5 : e.1.what = 5
        · have b1 : (e.1.what == 5) = true := by simp [h5]
          have HC : Hid (widthH (a ++ e :: r) = e.1.n) := by show _ = _; rw [HS.out]; simp [widthH, h5]
          clear h5
          go_wp2
          go_ret
          exact ⟨by rw [HC.out]; rfl, rfl⟩
        · have b1 : (e.1.what == 5) = false := by simp [h5]
          have HC : Hid (widthH (a ++ e :: r) = widthH r) := by show _ = _; rw [HS.out]; simp [widthH, h5, hw]
          clear h5
          go_wp2
          go_round
          case rel => exact ⟨a ++ [e], r, by simp, HC.out, by go_num⟩
          case measure => simp [intOf]
      · have hd : decide (3 < e.1.what) = false := by simpa using hw
        have HC : Hid (widthH (a ++ e :: r) = 1) := by show _ = _; rw [HS.out]; simp [widthH, hw]
        go_wp2
        go_ret
        exact ⟨by rw [HC.out]; rfl, rfl⟩

set_option maxHeartbeats 1000000 in
theorem from_c {w : World} {B : Nat} {L : Lay} (h : RefRep w B L) (v : Nat) (hv : v < L.past.length) :
    Calls Try.prog 107 #[.pointer (some ⟨L.tb, 0, none⟩), I v] w fun e w' => e = .returned (.agg #[I (fromH (L.hist v)).1.what, I (fromH (L.hist v)).1.n, I (fromH (L.hist v)).1.v, (fromH (L.hist v)).2]) ∧ Below w.heap.size w w' := by
  have h1 := h.hv_cell
  obtain ⟨hb, cap, e1, c1, c2, h2⟩ := h.past_at hv
  obtain ⟨ao, lc, e2, c3, c4, h3⟩ := h.hist_at hv
  rw [e1] at h1
  rw [e2] at h2
  clear e1 e2
  have hsz : L.tb < w.heap.size := h.size
  have hc := fun o => since_c (h.below ((Below.refl _ w).alloc (Nat.le_refl _) o)) v hv
  have h4 : ∀ e ∈ L.hist v, ∃ ao n cap, e.2 = .slice ao n cap := fun e he => by
    obtain ⟨ao, cap, h1, _⟩ := h.items_at hv he
    exact ⟨ao, _, cap, h1⟩
  generalize L.hist v = l at *
  generalize L.past.length = pl at *
  generalize L.tb = tb at *
  unfold maxLen at c2 c4
  clear h
  rcases sinceH_split l with ⟨hs, _, hf⟩ | ⟨a, e, r, rfl, hs, _, hf⟩
  · rw [hs] at hc
    rw [hf]
    clear hs hf h3 h4
    have l1 := cell_lt h2
    go_enter Try.func107, Try.ntmps107
    go_wp2_with fail
    refine (hc _).mono ?_
    rintro e w' ⟨rfl, rfl⟩
    go_wp2
    exact bodyPost_ret (v := .agg #[I 3, I 0, I 0, .slice none 0 0]) (by simp [results, Try.results107, go_sem]) rfl ⟨rfl, (Below.refl _ _).alloc (Nat.le_refl _) _⟩
  · obtain ⟨lb, rfl, g0, g1, g2, g3⟩ := h3 a e r rfl
    rw [hs] at hc
    rw [hf]
    have hl : r.length + 1 ≤ (a ++ e :: r).length := by simp
    clear h3 hs hf
    generalize (a ++ e :: r).length = ll at *
    have l1 := cell_lt h2
    have l2 := cell_lt g0
    obtain ⟨io, il, ic, h5⟩ := h4 e (by simp)
    rw [h5] at g3 ⊢
    clear h4 h5
    go_enter Try.func107, Try.ntmps107
    go_wp2_with fail
    refine (hc _).mono ?_
    rintro x w' ⟨rfl, rfl⟩
    go_wp2
    exact bodyPost_ret (v := .agg #[I e.1.what, I e.1.n, I e.1.v, .slice io il ic]) (by simp [results, Try.results107, go_sem]) rfl ⟨rfl, (Below.refl _ _).alloc (Nat.le_refl _) _⟩

set_option maxHeartbeats 1000000 in
theorem toggle_c {w : World} {B : Nat} {L : Lay} (h : RefRep w B L) (v : Nat) (hv : v < L.past.length) (h0 : 0 ≤ (fromH (L.hist v)).1.n) (h9 : (fromH (L.hist v)).1.n ≤ 1000000000000000000) (hk : manyH 4 (-1) (L.hist v) ≤ 1000000000000000000) :
    Calls Try.prog 83 #[.pointer (some ⟨L.tb, 0, none⟩), I v] w fun e w' => e = .returned (I (((fromH (L.hist v)).1.n + manyH 4 (-1) (L.hist v)) % 2)) ∧ Below w.heap.size w w' := by
  have hc := from_c h v hv
  have hm := fun w' (hb : Below w.heap.size w w') => many_c (h.below hb) v hv 4 (-1)
  obtain ⟨io, il, ic, h5⟩ : ∃ ao n cap, (fromH (L.hist v)).2 = .slice ao n cap := by
    rcases sinceH_split (L.hist v) with ⟨_, _, hf⟩ | ⟨a, e, r, hl, _, _, hf⟩
    · rw [hf]; exact ⟨_, _, _, rfl⟩
    · rw [hf]
      obtain ⟨ao, cap, h1, _⟩ := h.items_at hv (e := e) (by rw [hl]; simp)
      exact ⟨ao, _, cap, h1⟩
  rw [h5] at hc
  clear h h5
  generalize fromH (L.hist v) = f at *
  generalize manyH 4 (-1) (L.hist v) = m at *
  generalize L.tb = tb at *
  go_enter Try.func83, Try.ntmps83
  go_wp2_with fail
  refine hc.mono ?_
  rintro x w1 ⟨rfl, hb1⟩
  go_wp2_with fail
  refine (hm _ (hb1.alloc hb1.size _)).mono ?_
  rintro x w2 ⟨rfl, rfl⟩
  go_wp2
  go_ret
  exact ⟨rfl, hb1.alloc hb1.size _⟩

theorem fromH_slice {w : World} {B : Nat} {L : Lay} (h : RefRep w B L) (v : Nat) (hv : v < L.past.length) : ∃ ao cap, (fromH (L.hist v)).2 = .slice ao (fromH (L.hist v)).1.items.length cap ∧ (fromH (L.hist v)).1.items.length ≤ cap ∧ (fromH (L.hist v)).1.items.length ≤ maxLen ∧
      ∀ i, (hi : i < (fromH (L.hist v)).1.items.length) → ∃ g, ao = some ⟨g, 0, none⟩ ∧ w.cell? ⟨g, i, none⟩ = some (I (fromH (L.hist v)).1.items[i]) := by
  rcases sinceH_split (L.hist v) with ⟨_, _, hf⟩ | ⟨a, e, r, hl, _, _, hf⟩
  · rw [hf]; exact ⟨none, 0, rfl, Nat.zero_le _, Nat.zero_le _, fun i hi => absurd hi (by simp)⟩
  · rw [hf]
    exact h.items_at hv (e := e) (by rw [hl]; simp)

set_option maxHeartbeats 1000000 in
theorem puts_c {w : World} {B : Nat} {L : Lay} (h : RefRep w B L) (v : Nat) (hv : v < L.past.length) (h0 : 0 ≤ (fromH (L.hist v)).1.n) (h9 : (fromH (L.hist v)).1.n ≤ 1000000000000000000) (hk : manyH 6 (-1) (L.hist v) ≤ 1000000000000000000) :
    Calls Try.prog 109 #[.pointer (some ⟨L.tb, 0, none⟩), I v] w fun e w' => e = .returned (I ((fromH (L.hist v)).1.n + manyH 6 (-1) (L.hist v))) ∧ Below w.heap.size w w' := by
  have hc := from_c h v hv
  have hm := fun w' (hb : Below w.heap.size w w') => many_c (h.below hb) v hv 6 (-1)
  obtain ⟨io, ic, h5, _⟩ := fromH_slice h v hv
  rw [h5] at hc
  clear h h5
  generalize fromH (L.hist v) = f at *
  generalize manyH 6 (-1) (L.hist v) = m at *
  generalize L.tb = tb at *
  go_enter Try.func109, Try.ntmps109
  go_wp2_with fail
  refine hc.mono ?_
  rintro x w1 ⟨rfl, hb1⟩
  go_wp2_with fail
  refine (hm _ (hb1.alloc hb1.size _)).mono ?_
  rintro x w2 ⟨rfl, rfl⟩
  go_wp2
  go_ret
  exact ⟨rfl, hb1.alloc hb1.size _⟩

set_option maxHeartbeats 1000000 in
theorem gets_c {w : World} {B : Nat} {L : Lay} (h : RefRep w B L) (v : Nat) (hv : v < L.past.length) :
    Calls Try.prog 111 #[.pointer (some ⟨L.tb, 0, none⟩), I v] w fun e w' => e = .returned (I (manyH 7 (-1) (L.hist v))) ∧ w' = w := by
  have hm := many_c h v hv 7 (-1)
  clear h
  generalize manyH 7 (-1) (L.hist v) = m at *
  generalize L.tb = tb at *
  go_enter Try.func111, Try.ntmps111
  go_wp2_with fail
  refine hm.mono ?_
  rintro x w1 ⟨rfl, rfl⟩
  go_wp2
  go_ret
  exact ⟨rfl, rfl⟩

def takenH (l : Hist) (t : Int) : Bool := decide (0 ≤ t) && decide (0 < manyH 9 t l)

set_option maxHeartbeats 1000000 in
theorem taken_c {w : World} {B : Nat} {L : Lay} (h : RefRep w B L) (v : Nat) (hv : v < L.past.length) (t : Int) :
    Calls Try.prog 112 #[.pointer (some ⟨L.tb, 0, none⟩), I v, I t] w fun e w' => e = .returned (.bool (takenH (L.hist v) t)) ∧ w' = w := by
  have hm := many_c h v hv 9 t
  clear h
  by_cases ht : t < 0
  · have ht' : ¬ 0 ≤ t := by omega
    have hf : takenH (L.hist v) t = false := by simp [takenH, ht']
    rw [hf]
    clear hf
    go_enter Try.func112, Try.ntmps112
    go_wp2
    go_ret
    exact ⟨rfl, rfl⟩
  · have ht' : 0 ≤ t := by omega
    have hf : takenH (L.hist v) t = decide (0 < manyH 9 t (L.hist v)) := by simp [takenH, ht']
    rw [hf]
    clear hf
    generalize manyH 9 t (L.hist v) = m at *
    generalize L.tb = tb at *
    go_enter Try.func112, Try.ntmps112
    go_wp2_with fail
    refine hm.mono ?_
    rintro x w1 ⟨rfl, rfl⟩
    go_wp2
    go_ret
    exact ⟨rfl, rfl⟩

end Go.Proofs.Ytjnmpejcegmkhaa
