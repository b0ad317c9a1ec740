/- Contracts of package prismref's functions that only read: each returns what a plain function of the tree's data tells. No statement of the seat is proved here. -/
import Derived.Test.YtjnmpejcegmkhaaRef0
namespace Go.Proofs.Ytjnmpejcegmkhaa
open Go.RowKit

theorem sh_small (k : Nat) (hk : k ≤ 5) : wrap64 (2 * 2 ^ k) = ((2 ^ (k + 1) : Nat) : Int) := by
  have : k = 0 ∨ k = 1 ∨ k = 2 ∨ k = 3 ∨ k = 4 ∨ k = 5 := by omega
  rcases this with rfl | rfl | rfl | rfl | rfl | rfl <;> decide +kernel

theorem log2_le5 (v : Nat) (hv : v < 64) : Nat.log2 v ≤ 5 := by
  by_cases h0 : v = 0
  · subst h0; decide
  · have := (Nat.log2_lt (n := v) (k := 6) h0).2 (by omega)
    omega

set_option maxHeartbeats 400000 in
theorem depth_c (v : Nat) (hv : v < 64) (w : World) :
    Calls Try.prog 78 #[I v] w fun e w' => e = .returned (I (Nat.log2 v)) ∧ w' = w := by
  have h5 := log2_le5 v hv
  go_enter Try.func78, Try.ntmps78
  go_wp2
  go_loop [3] (fun d => ∃ k : Nat, k ≤ Nat.log2 v ∧ d = .int .i64 k) (fun d => 64 - (intOf d).toNat)
  case atStart => exact ⟨0, by omega, rfl⟩
  case round =>
    obtain ⟨k, hk, rfl⟩ := hrel
    obtain ⟨p, hp⟩ : ∃ p : Nat, p = 2 ^ (k + 1) := ⟨_, rfl⟩
    have hs := sh_small k (by omega)
    rw [← hp] at hs
    have HP : Hid (p = 2 ^ (k + 1)) := hp
    clear hp
    go_wp2
    · go_round
      case rel =>
        refine ⟨k + 1, ?_, by go_num⟩
        have h : p ≤ v := by omega
        have hp := HP.out
        by_cases h0 : v = 0
        · subst h0; have : 0 < 2 ^ (k + 1) := Nat.two_pow_pos _; omega
        · exact (Nat.le_log2 h0).2 (by omega)
      case measure => simp [intOf]; omega
    · go_ret
      have h : v < p := by omega
      have hp := HP.out
      have e : Nat.log2 v = k := by
        by_cases h0 : v = 0
        · subst h0; have h00 : Nat.log2 0 = 0 := by decide
          omega
        · have := (Nat.log2_lt h0 (k := k + 1)).2 (by omega)
          omega
      rw [e]; exact ⟨rfl, rfl⟩

/-- Rank of node v, by its halves. -/
def rankTo : Nat → Nat → Nat
  | 0, _ => 0
  | f + 1, v => if v ≤ 1 then 0 else rankTo f (v / 2) + v % 2 * 2 ^ Nat.log2 (v / 2)
def rank (v : Nat) : Nat := rankTo 6 v

theorem sh_one (k : Nat) (hk : k ≤ 5) : wrap64 (2 ^ k) = ((2 ^ k : Nat) : Int) := by
  have : k = 0 ∨ k = 1 ∨ k = 2 ∨ k = 3 ∨ k = 4 ∨ k = 5 := by omega
  rcases this with rfl | rfl | rfl | rfl | rfl | rfl <;> decide +kernel

theorem rankTo_le (f v : Nat) : rankTo f v ≤ v := by
  induction f generalizing v with
  | zero => simp [rankTo]
  | succ f ih =>
    unfold rankTo
    split
    · omega
    · have h1 := ih (v / 2)
      have h2 : 2 ^ Nat.log2 (v / 2) ≤ v / 2 := Nat.log2_self_le (by omega)
      have h3 : v % 2 < 2 := Nat.mod_lt _ (by omega)
      have h4 : v % 2 = 0 ∨ v % 2 = 1 := by omega
      rcases h4 with h4 | h4 <;> rw [h4] <;> omega

set_option maxHeartbeats 400000 in
theorem rankTo_c (f : Nat) (hf : f ≤ 6) : ∀ (v : Nat), v < 2 ^ f → ∀ w : World,
    Calls Try.prog 110 #[I v] w fun e w' => e = .returned (I (rankTo f v)) ∧ w' = w := by
  induction f with
  | zero =>
    intro v hv w
    have : v = 0 := by simpa using hv
    subst this
    go_enter Try.func110, Try.ntmps110
    go_wp2_with fail
    go_ret
    exact ⟨rfl, rfl⟩
  | succ f ih =>
    intro v hv w
    have hv64 : v < 64 := by
      have : 2 ^ (f + 1) ≤ 2 ^ 6 := Nat.pow_le_pow_right (by omega) hf
      omega
    have IH := ih (by omega)
    clear ih
    by_cases h1 : v ≤ 1
    · go_enter Try.func110, Try.ntmps110
      go_wp2_with fail
      go_ret
      exact ⟨by simp [rankTo, h1], rfl⟩
    · have HI : Hid (∀ (v : Nat), v < 2 ^ f → ∀ w : World, Calls Try.prog 110 #[I v] w fun e w' => e = .returned (I (rankTo f v)) ∧ w' = w) := IH
      clear IH
      have hv2 : v / 2 < 2 ^ f := by rw [Nat.pow_succ] at hv; omega
      have hle := rankTo_le f (v / 2)
      have hl5 := log2_le5 (v / 2) (by omega)
      have HE : Hid (rankTo (f + 1) v = rankTo f (v / 2) + v % 2 * 2 ^ Nat.log2 (v / 2)) := by show rankTo (f + 1) v = _; simp [rankTo, h1]
      have HL : Hid (2 ^ Nat.log2 (v / 2) ≤ v / 2) := Nat.log2_self_le (by omega)
      clear hv
      generalize rankTo (f + 1) v = R at *
      go_enter Try.func110, Try.ntmps110
      go_wp2_with fail
      rw [show (v : Int) / 2 = ((v / 2 : Nat) : Int) from by omega]
      refine (HI.out (v / 2) hv2 _).mono ?_
      rintro e w' ⟨rfl, rfl⟩
      go_wp2_with fail
      rw [show (v : Int) / 2 = ((v / 2 : Nat) : Int) from by omega]
      refine (depth_c (v / 2) (by omega) _).mono ?_
      rintro e w' ⟨rfl, rfl⟩
      have hs := sh_one _ hl5
      generalize 2 ^ Nat.log2 (v / 2) = P at *
      go_wp2_with fail
      go_ret
      refine ⟨?_, rfl⟩
      have hE := HE.out
      have hL := HL.out
      subst hE
      have h4 : v % 2 = 0 ∨ v % 2 = 1 := by omega
      rcases h4 with h4 | h4
      · rw [show (v : Int) % 2 = 0 from by omega, h4, Int.zero_mul, Go.IntWalk.wrap64_in 0 (by omega), Go.IntWalk.wrap64_in _ (by omega)]; simp
      · rw [show (v : Int) % 2 = 1 from by omega, h4, Int.one_mul, Go.IntWalk.wrap64_in P (by omega), Go.IntWalk.wrap64_in _ (by omega)]; simp

theorem rank_c (v : Nat) (hv : v < 64) (w : World) :
    Calls Try.prog 110 #[I v] w fun e w' => e = .returned (I (rank v)) ∧ w' = w := rankTo_c 6 (by omega) v (by omega) w

/- What is told out of what has happened at a node (the newest first). -/
def sinceH : Hist → Int
  | [] => -1
  | e :: r => if e.1.what ≤ 3 then r.length else sinceH r
def formH : Hist → Int
  | [] => 3
  | e :: r => if e.1.what ≤ 3 then e.1.what else formH r
def fromH : Hist → Ev × Value
  | [] => (⟨3, 0, 0, []⟩, .slice none 0 0)
  | e :: r => if e.1.what ≤ 3 then e else fromH r
def manyH (what n : Int) : Hist → Nat
  | [] => 0
  | e :: r => if 3 < e.1.what then (if e.1.what = what ∧ (n < 0 ∨ e.1.n = n) then 1 else 0) + manyH what n r else 0
def widthH : Hist → Int
  | [] => 1
  | e :: r => if 3 < e.1.what then (if e.1.what = 5 then e.1.n else widthH r) else 1

set_option maxHeartbeats 400000 in
theorem since_c {w : World} {B : Nat} {L : Lay} (h : RefRep w B L) (v : Nat) (hv : v < L.past.length) :
    Calls Try.prog 139 #[.pointer (some ⟨L.tb, 0, none⟩), I v] w fun e w' => e = .returned (I (sinceH (L.hist v))) ∧ w' = w := by
  have h1 := h.hv_cell
  obtain ⟨hb, cap, e1, c1, c2, h2⟩ := h.past_at hv
  obtain ⟨ao, lc, e2, c3, c4, h3⟩ := h.hist_at hv
  rw [e1] at h1
  rw [e2] at h2
  clear e1 e2
  generalize L.hist v = l at *
  generalize L.past.length = pl at *
  generalize L.tb = tb at *
  unfold maxLen at c2 c4
  have H3 := h3
  clear h h3
  go_enter Try.func139, Try.ntmps139
  go_wp2
  go_loop [6] (fun i => ∃ a r, l = a ++ r ∧ sinceH l = sinceH r ∧ i = .int .i64 (r.length - 1)) (fun i => (intOf i + 1).toNat)
  case atStart => exact ⟨[], l, rfl, rfl, rfl⟩
  case round =>
    obtain ⟨a, r, rfl, hs, rfl⟩ := hrel
    cases r with
    | nil =>
      go_wp2
      go_ret
      exact ⟨by simp_all [sinceH], rfl⟩
    | cons e r =>
      obtain ⟨lb, rfl, g0, g1, g2, g3⟩ := H3 a e r rfl
      clear g1 g2 g3 H3
      have hl : r.length + 1 ≤ (a ++ e :: r).length := by simp
      have HS : Hid (sinceH (a ++ e :: r) = sinceH (e :: r)) := hs
      clear hs
      rw [show (((e :: r).length : Nat) : Int) - 1 = r.length from by simp]
      generalize (a ++ e :: r).length = ll at *
      by_cases hw : e.1.what ≤ 3
      · go_wp2
        go_ret
        exact ⟨by rw [HS.out]; simp [sinceH, hw], rfl⟩
      · have HR : Hid (sinceH (e :: r) = sinceH r) := by show sinceH (e :: r) = sinceH r; simp [sinceH, hw]
        go_wp2
        go_round
        case rel => exact ⟨a ++ [e], r, by simp, by rw [HS.out, HR.out], rfl⟩
        case measure => simp [intOf]

theorem sinceH_split (l : Hist) : (sinceH l = -1 ∧ formH l = 3 ∧ fromH l = (⟨3, 0, 0, []⟩, .slice none 0 0)) ∨ ∃ a e r, l = a ++ e :: r ∧ sinceH l = r.length ∧ formH l = e.1.what ∧ fromH l = e := by
  induction l with
  | nil => exact Or.inl ⟨rfl, rfl, rfl⟩
  | cons x l ih =>
    by_cases hw : x.1.what ≤ 3
    · exact Or.inr ⟨[], x, l, rfl, by simp [sinceH, hw], by simp [formH, hw], by simp [fromH, hw]⟩
    · rcases ih with ⟨h1, h2, h3⟩ | ⟨a, e, r, h1, h2, h3, h4⟩
      · exact Or.inl ⟨by simp [sinceH, hw, h1], by simp [formH, hw, h2], by simp [fromH, hw, h3]⟩
      · exact Or.inr ⟨x :: a, e, r, by simp [h1], by simp [sinceH, hw, h2], by simp [formH, hw, h3], by simp [fromH, hw, h4]⟩

set_option maxHeartbeats 400000 in
theorem form_c {w : World} {B : Nat} {L : Lay} (h : RefRep w B L) (v : Nat) (hv : v < L.past.length) :
    Calls Try.prog 106 #[.pointer (some ⟨L.tb, 0, none⟩), I v] w fun e w' => e = .returned (I (formH (L.hist v))) ∧ w' = w := by
  have h1 := h.hv_cell
  obtain ⟨hb, cap, e1, c1, c2, h2⟩ := h.past_at hv
  obtain ⟨ao, lc, e2, c3, c4, h3⟩ := h.hist_at hv
  have hc := since_c h v hv
  rw [e1] at h1
  rw [e2] at h2
  clear e1 e2
  generalize L.hist v = l at *
  generalize L.past.length = pl at *
  generalize L.tb = tb at *
  unfold maxLen at c2 c4
  clear h
  rcases sinceH_split l with ⟨hs, hf, _⟩ | ⟨a, e, r, rfl, hs, hf, _⟩
  · rw [hs] at hc
    rw [hf]
    clear h3 hs hf
    go_enter Try.func106, Try.ntmps106
    go_wp2_with fail
    refine hc.mono ?_
    rintro e w' ⟨rfl, rfl⟩
    go_wp2
    go_ret
    exact ⟨rfl, rfl⟩
  · obtain ⟨lb, rfl, g0, g1, g2, g3⟩ := h3 a e r rfl
    rw [hs] at hc
    rw [hf]
    have hl : r.length + 1 ≤ (a ++ e :: r).length := by simp
    clear g1 g2 g3 h3 hs hf
    generalize (a ++ e :: r).length = ll at *
    go_enter Try.func106, Try.ntmps106
    go_wp2_with fail
    refine hc.mono ?_
    rintro e w' ⟨rfl, rfl⟩
    go_wp2
    go_ret
    exact ⟨rfl, rfl⟩

end Go.Proofs.Ytjnmpejcegmkhaa
