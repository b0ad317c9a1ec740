/- Contracts of the program's own functions: isConfig, firstOfDepth, place, waiting, values. No statement of the seat is proved here. -/
import Derived.Test.YtjnmpejcegmkhaaRef8
namespace Go.Proofs.Ytjnmpejcegmkhaa
open Go.RowKit

set_option maxHeartbeats 4000000 in
theorem isConfig_c (c : Conf) (w : World) : Calls Try.prog 65 #[confV c] w fun e w' => e = .returned (.bool (mayC c)) ∧ Below w.heap.size w w' := by
  have HM : Hid (∀ b : Bool, (b = true ↔ ((c.kind = 0 ∨ c.kind = 1) ∧ 0 ≤ c.depth ∧ c.depth ≤ 4 ∧ 0 ≤ c.start ∧ c.start ≤ c.depth ∧ 1 ≤ c.slots ∧ c.slots ≤ 4 ∧ 1 ≤ c.width ∧ c.width ≤ 4 ∧ 0 ≤ c.spin ∧ c.spin ≤ 8 ∧ 0 ≤ c.drain ∧ c.drain ≤ 16 ∧ 1 ≤ c.procs ∧ c.procs ≤ 16)) → b = mayC c) := fun b h => mayC_mk h
  unfold confV
  generalize mayC c = M at *
  obtain ⟨kind, depth, start, slots, width, spin, drain, procs⟩ := c
  simp only at *
  by_cases hk : kind = 0 ∨ kind = 1
  · have hk2 : (kind != 0) = false ∨ ((kind != 0) = true ∧ (kind != 1) = false) := by
      rcases hk with rfl | rfl <;> simp
    have HK : Hid (kind = 0 ∨ kind = 1) := hk
    clear hk
    rcases hk2 with k0 | ⟨k0, k1⟩
    all_goals
      go_enter Try.func65, Try.ntmps65
      go_wp2
    all_goals
      go_ret
      exact ⟨ret_bool (HM.out _ (by have := HK.out; simp; omega)), (Below.refl _ _).alloc (Nat.le_refl _) _⟩
  · have k0 : (kind != 0) = true := by simp; omega
    have k1 : (kind != 1) = true := by simp; omega
    have HK : Hid (¬ (kind = 0 ∨ kind = 1)) := hk
    clear hk
    go_enter Try.func65, Try.ntmps65
    go_wp2
    go_ret
    exact ⟨ret_bool (HM.out _ (by have := HK.out; simp; omega)), (Below.refl _ _).alloc (Nat.le_refl _) _⟩

set_option maxHeartbeats 1000000 in
theorem firstOfDepth_c (d : Nat) (hd : d ≤ 5) (w : World) : Calls Try.prog 97 #[I d] w fun e w' => e = .returned (I ((2 ^ d : Nat) : Int)) ∧ w' = w := by
  obtain ⟨P, hP⟩ : ∃ P : Nat → Nat, P = fun k => 2 ^ k := ⟨_, rfl⟩
  have hP0 : P 0 = 1 := by rw [hP]
  have HPS : Hid (∀ k, P (k + 1) = 2 * P k) := by intro k; rw [hP]; simp [Nat.pow_succ, Nat.mul_comm]
  have HP0 : Hid (P 0 = 1) := hP0
  have HPb : Hid (∀ k, k ≤ 5 → P k ≤ 32) := by intro k hk; rw [hP]; exact Nat.le_trans (Nat.pow_le_pow_right (by omega) hk) (by decide)
  have HE : Hid (2 ^ d = P d) := by show _ = _; rw [hP]
  rw [HE.out]
  clear hP0 hP HE
  go_enter Try.func97, Try.ntmps97
  go_wp2
  go_loop [3, 4] (fun x i => ∃ k : Nat, k ≤ d ∧ i = .int .i64 k ∧ x = .int .i64 (P k)) (fun _ i => d - (intOf i).toNat)
  case atStart => exact ⟨0, Nat.zero_le _, rfl, int_of (by rw [HP0.out]; rfl)⟩
  case round =>
    obtain ⟨k, hk, rfl, rfl⟩ := hrel
    by_cases hlt : k < d
    · have hb := HPb.out k (by omega)
      go_wp2
      go_round
      case rel => exact ⟨k + 1, by omega, by go_num, int_of (by rw [HPS.out]; omega)⟩
      case measure => simp [intOf]; omega
    · have e : k = d := by omega
      subst e
      go_wp2
      go_ret
      exact ⟨rfl, rfl⟩

def placeTo : Nat → Nat → Nat → Nat → Nat × Nat
  | 0, _, d, r => (d, r)
  | f + 1, v, d, r => if 1 < v then placeTo f (v / 2) (d + 1) (2 * r + v % 2) else (d, r)

theorem placeTo_eq : ∀ v, v < 64 → placeTo 6 v 0 0 = (Nat.log2 v, rank v) := by decide +kernel

theorem placeTo_stop (f v d r : Nat) (h : ¬ 1 < v) : placeTo f v d r = (d, r) := by cases f <;> simp [placeTo, h]

set_option maxHeartbeats 1000000 in
theorem place_c (v : Nat) (hv : v < 64) (w : World) : Calls Try.prog 68 #[I v] w fun e w' => e = .returned (.tuple #[I (Nat.log2 v), I (rank v)]) ∧ w' = w := by
  have he := placeTo_eq v hv
  have HE : Hid (placeTo 6 v 0 0 = (Nat.log2 v, rank v)) := he
  clear he
  generalize Nat.log2 v = D at *
  generalize rank v = R at *
  go_enter Try.func68, Try.ntmps68
  go_wp2
  go_loop [0, 4, 5] (fun x dd rr => ∃ f vv d r : Nat, vv < 2 ^ f ∧ vv < 64 ∧ d + f = 6 ∧ r < 2 ^ d ∧ Hid (placeTo f vv d r = (D, R)) ∧ x = .int .i64 vv ∧ dd = .int .i64 d ∧ rr = .int .i64 r) (fun x _ _ => (intOf x).toNat)
  case atStart => exact ⟨6, v, 0, 0, by omega, hv, rfl, by decide, HE, rfl, rfl, rfl⟩
  case round =>
    obtain ⟨f, vv, d, r, h1, h2, h3, h4, h5, rfl, rfl, rfl⟩ := hrel
    have hr64 : r < 64 := Nat.lt_of_lt_of_le h4 (Nat.le_trans (Nat.pow_le_pow_right (by omega) (by omega : d ≤ 6)) (by decide))
    by_cases hgt : 1 < vv
    · cases f with
      | zero => exfalso; simp at h1; omega
      | succ f =>
        have H5 : Hid (placeTo f (vv / 2) (d + 1) (2 * r + vv % 2) = (D, R)) := by have := h5.out; simp only [placeTo, hgt, if_true] at this; exact this
        have h1' : vv / 2 < 2 ^ f := by rw [Nat.pow_succ] at h1; omega
        have h4' : 2 * r + vv % 2 < 2 ^ (d + 1) := by rw [Nat.pow_succ]; omega
        replace h1' : Hid _ := h1'
        replace h4' : Hid _ := h4'
        clear h5 h1 h4
        go_wp2
        go_round
        case rel => exact ⟨f, vv / 2, d + 1, 2 * r + vv % 2, h1', by omega, by omega, h4', H5, by go_num, by go_num, int_of (by omega)⟩
        case measure => simp [intOf]; omega
    · have H5 : Hid ((d, r) = (D, R)) := by have := h5.out; rw [placeTo_stop _ _ _ _ hgt] at this; exact this
      clear h5 h1 h4
      have e1 : d = D := by have := H5.out; simp at this; exact this.1
      have e2 : r = R := by have := H5.out; simp at this; exact this.2
      subst e1 e2
      go_wp2
      go_ret2
      exact ⟨rfl, rfl⟩

def whoAt (st wh : Nat → Int) (k : Nat) : Int := if st k = 0 then -1 else wh k
def whoTo (st wh : Nat → Int) (k : Nat) : List Int := (List.range k).map (whoAt st wh)
theorem whoTo_succ (st wh : Nat → Int) (k : Nat) : whoTo st wh (k + 1) = whoTo st wh k ++ [whoAt st wh k] := by simp [whoTo, List.range_succ]
theorem whoTo_length (st wh : Nat → Int) (k : Nat) : (whoTo st wh k).length = k := by simp [whoTo]

theorem Try.info3' : (Try.prog.info? 3).map (fun i => (i.zero, i.size, i.bytes)) = some (some (.int .i64 0), 1, 8) := by kernel_rfl

set_option maxHeartbeats 2000000 in
theorem waiting_c (w : World) (tb off : Nat) (st wh : Nat → Int) (W : Nat) (hW : W ≤ 4) (h : ∀ k, k < 4 → w.cell? ⟨tb, off + 6 + k * 3, none⟩ = some (I (st k)) ∧ w.cell? ⟨tb, off + 6 + k * 3 + 1, none⟩ = some (I (wh k))) :
    Calls Try.prog 69 #[.pointer (some ⟨tb, off, none⟩), I W] w fun e w' => ∃ x, e = .returned x ∧ w'.ownsRow w.heap.size 3 1 x W ((whoTo st wh W).map I) ∧ Below w.heap.size w w' := by
  have l0 := cell_lt (h 0 (by omega)).1
  obtain ⟨i0, hi, hz0, hz1, hz2⟩ := info_parts Try.info3'
  go_enter Try.func69, Try.ntmps69
  go_wp2_with fail
  go_loopw [5, 6, 7] (fun x i _ wr => ∃ k : Nat, k ≤ W ∧ i = .int .i64 k ∧ wr.ownsRow w.heap.size 3 1 x k ((whoTo st wh k).map I) ∧ Below w.heap.size w wr) (fun _ i _ _ => W - (intOf i).toNat)
  case atStart => exact ⟨0, Nat.zero_le _, rfl, World.ownsRow_nil _ _ _ _, Below.refl _ _⟩
  case round =>
    obtain ⟨k, hk, rfl, hown, hbr⟩ := hrel
    by_cases hlt : k < W
    · have c1 := (hbr.cell (p := ⟨tb, off + 6 + k * 3, none⟩) l0).trans (h k (by omega)).1
      have c2 := (hbr.cell (p := ⟨tb, off + 6 + k * 3 + 1, none⟩) l0).trans (h k (by omega)).2
      have hk4 : (k : Int) < 4 := by omega
      have hsz := hbr.size
      have HW : Hid (whoTo st wh (k + 1) = whoTo st wh k ++ [whoAt st wh k]) := whoTo_succ st wh k
      by_cases hs : st k = 0
      · have b1 : (st k != 0) = false := by simp [hs]
        have HA : Hid (whoAt st wh k = -1) := by show _ = _; simp [whoAt, hs]
        clear hs h
        go_wp2_with (at_builtin; go_must (refine wpList_append_own _ rfl _ _ 27 rfl w.heap.size 3 i0 (.int .i64 0) 1 8 Try.underlying27 hi hz0 hz1 hz2 rfl (by decide) _ _ _ rfl (hown.alloc _) ⟨wr.heap.size, 0, none⟩ 1 1 [.int .i64 (-1)] rfl rfl ?c1 ?c2 ?c3 ?c4 ?c5 ?_))
        case c1 => exact cell_one_new _ _ _
        case c2 => intro u hu; simp at hu; subst hu; rfl
        case c3 => unfold maxLen; omega
        case c4 => omega
        case c5 => simp; omega
        · intro x' w3 hown' hgrow _
          have hb4 : Below w.heap.size w w3 := (hbr.alloc hsz _).grown hgrow (by simp; omega) (fun j hj => (hown.lt j hj).1)
          clear hgrow
          go_wp2
          go_roundw
          case rel => exact ⟨k + 1, by omega, by go_num, by rw [HW.out, HA.out]; simpa using hown', hb4⟩
          case measure => simp [intOf]; omega
      · have b1 : (st k != 0) = true := by simp [hs]
        have HA : Hid (whoAt st wh k = wh k) := by show _ = _; simp [whoAt, hs]
        clear hs h
        go_wp2_with (at_builtin; go_must (refine wpList_append_own _ rfl _ _ 27 rfl w.heap.size 3 i0 (.int .i64 0) 1 8 Try.underlying27 hi hz0 hz1 hz2 rfl (by decide) _ _ _ rfl (hown.alloc _) ⟨wr.heap.size, 0, none⟩ 1 1 [.int .i64 (wh k)] rfl rfl ?c1 ?c2 ?c3 ?c4 ?c5 ?_))
        case c1 => exact cell_one_new _ _ _
        case c2 => intro u hu; simp at hu; subst hu; rfl
        case c3 => unfold maxLen; omega
        case c4 => omega
        case c5 => simp; omega
        · intro x' w3 hown' hgrow _
          have hb4 : Below w.heap.size w w3 := (hbr.alloc hsz _).grown hgrow (by simp; omega) (fun j hj => (hown.lt j hj).1)
          clear hgrow
          go_wp2
          go_roundw
          case rel => exact ⟨k + 1, by omega, by go_num, by rw [HW.out, HA.out]; simpa using hown', hb4⟩
          case measure => simp [intOf]; omega
    · have e : k = W := by omega
      subst e
      have hd : decide ((k : Int) < (k : Int)) = false := by simp
      go_wp2
      go_ret
      exact ⟨_, rfl, hown, hbr⟩

/-- The values of the items that lie. -/
def pvals (its : List (Int × Int)) : List Int := (its.filter fun y => y.1 == 1).map fun y => y.2
theorem pvals_snoc (its : List (Int × Int)) (y : Int × Int) : pvals (its ++ [y]) = pvals its ++ (if y.1 = 1 then [y.2] else []) := by
  simp only [pvals, List.filter_append, List.map_append]
  congr 1
  by_cases h : y.1 = 1 <;> simp [h]
theorem pvals_le (its : List (Int × Int)) : (pvals its).length ≤ its.length := by
  simp only [pvals, List.length_map]
  exact List.length_filter_le _ _

set_option maxHeartbeats 2000000 in
theorem values_c (w : World) (B tb off : Nat) (iv : Value) (its : List (Int × Int)) (h : w.cell? ⟨tb, off + 20, none⟩ = some iv) (hr : w.ownsRow B 135 2 iv its.length (its.flatMap fun y => [I y.1, I y.2])) (hl : its.length ≤ 1000000000000) :
    Calls Try.prog 70 #[.pointer (some ⟨tb, off, none⟩)] w fun e w' => ∃ x, e = .returned x ∧ w'.ownsRow w.heap.size 3 1 x (pvals its).length ((pvals its).map I) ∧ Below w.heap.size w w' := by
  have l0 := cell_lt h
  obtain ⟨ao, cap, rfl, c1, c2, c3, c4⟩ := ownsRow_cells hr
  have hat : ∀ k, (hk : k < its.length) → ∃ g, ao = some ⟨g, 0, none⟩ ∧ g < w.heap.size ∧ w.cell? ⟨g, k * 2, none⟩ = some (I (its[k]).1) ∧ w.cell? ⟨g, k * 2 + 1, none⟩ = some (I (its[k]).2) := by
    intro k hk
    have e : (its.flatMap fun y => [I y.1, I y.2])[k * 2]? = some (I (its[k]).1) ∧ (its.flatMap fun y => [I y.1, I y.2])[k * 2 + 1]? = some (I (its[k]).2) := by
      clear hr c1 c2 c4 hl h
      induction its generalizing k with
      | nil => simp at hk
      | cons x its ih =>
        cases k with
        | zero => simp
        | succ k =>
          simp only [List.flatMap_cons, List.getElem_cons_succ]
          rw [List.getElem?_append_right (by simp; omega), List.getElem?_append_right (by simp; omega)]
          have := ih k (by simpa using hk)
          simpa [show (k + 1) * 2 - 2 = k * 2 from by omega, show (k + 1) * 2 + 1 - 2 = k * 2 + 1 from by omega] using this
    obtain ⟨g, e1, _, c⟩ := c4 _ _ e.1
    obtain ⟨g', e1', _, c'⟩ := c4 _ _ e.2
    rw [e1] at e1'
    simp at e1'
    subst e1'
    exact ⟨g, e1, cell_lt c, c, c'⟩
  clear hr c4
  obtain ⟨i0, hi, hz0, hz1, hz2⟩ := info_parts Try.info3'
  unfold maxLen at c2 c3
  go_enter Try.func70, Try.ntmps70
  go_wp2_with fail
  go_loopw [3, 4] (fun x i wr => ∃ k : Nat, k ≤ its.length ∧ i = .int .i64 k ∧ wr.ownsRow w.heap.size 3 1 x (pvals (its.take k)).length ((pvals (its.take k)).map I) ∧ Below w.heap.size w wr) (fun _ i _ => its.length - (intOf i).toNat)
  case atStart => exact ⟨0, Nat.zero_le _, rfl, World.ownsRow_nil _ _ _ _, Below.refl _ _⟩
  case round =>
    obtain ⟨k, hk, rfl, hown, hbr⟩ := hrel
    have d1 := (hbr.cell (p := ⟨tb, off + 20, none⟩) l0).trans h
    by_cases hlt : k < its.length
    · obtain ⟨g, rfl, l1, q0, q⟩ := hat k hlt
      have d0 := (hbr.cell (p := ⟨g, k * 2, none⟩) l1).trans q0
      have d2 := (hbr.cell (p := ⟨g, k * 2 + 1, none⟩) l1).trans q
      have hsz := hbr.size
      have HW : Hid (pvals (its.take (k + 1)) = pvals (its.take k) ++ (if (its[k]).1 = 1 then [(its[k]).2] else [])) := by
        show _ = _
        rw [take_succ_get _ _ hlt, pvals_snoc]
      have hle : (pvals (its.take k)).length ≤ k := by
        have := pvals_le (its.take k)
        rw [List.length_take] at this
        omega
      clear hat q q0 h
      generalize (its[k]).2 = y at *
      generalize (its[k]).1 = st at *
      by_cases hst : st = 1
      · have b1 : (st == 1) = true := by simp [hst]
        have HW2 : Hid (pvals (its.take (k + 1)) = pvals (its.take k) ++ [y]) := by have := HW.out; rw [if_pos hst] at this; exact this
        clear hst HW
        generalize hpv : pvals (its.take k) = pv at *
        go_wp2_with (at_builtin; go_must (refine wpList_append_own _ rfl _ _ 27 rfl w.heap.size 3 i0 (.int .i64 0) 1 8 Try.underlying27 hi hz0 hz1 hz2 rfl (by decide) _ _ _ rfl (hown.alloc _) ⟨wr.heap.size, 0, none⟩ 1 1 [.int .i64 y] rfl rfl ?c1 ?c2 ?c3 ?c4 ?c5 ?_))
        case c1 => exact cell_one_new _ _ _
        case c2 => intro u hu; simp at hu; subst hu; rfl
        case c3 => unfold maxLen; omega
        case c4 => omega
        case c5 => simp; omega
        · intro x' w3 hown' hgrow _
          have hb4 : Below w.heap.size w w3 := (hbr.alloc hsz _).grown hgrow (by simp; omega) (fun j hj => (hown.lt j hj).1)
          clear hgrow
          go_wp2
          go_roundw
          case rel => exact ⟨k + 1, by omega, by go_num, by rw [HW2.out]; simpa using hown', hb4⟩
          case measure => simp [intOf]; omega
      · have b1 : (st == 1) = false := by simp [hst]
        have HW2 : Hid (pvals (its.take (k + 1)) = pvals (its.take k)) := by have := HW.out; rw [if_neg hst, List.append_nil] at this; exact this
        clear hst HW
        go_wp2
        go_roundw
        case rel => exact ⟨k + 1, by omega, by go_num, by rw [HW2.out]; exact hown, hbr⟩
        case measure => simp [intOf]; omega
    · have e : k = its.length := by omega
      subst e
      go_wp2
      go_ret
      exact ⟨_, rfl, by rw [List.take_length] at hown; exact hown, hbr⟩

end Go.Proofs.Ytjnmpejcegmkhaa
