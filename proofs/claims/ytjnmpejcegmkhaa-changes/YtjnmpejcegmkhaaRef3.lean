/- Contracts of package prismref's functions that only read, third part: item, items. No statement of the seat is proved here. -/
import Derived.Test.YtjnmpejcegmkhaaRef2
namespace Go.Proofs.Ytjnmpejcegmkhaa
open Go.RowKit

def laidH (t : Int) : Hist → Option Int
  | [] => none
  | e :: r => if 3 < e.1.what then (if e.1.what = 8 ∧ e.1.n = t then some e.1.v else laidH t r) else none
def itemH (l : Hist) (t : Int) : Option Int :=
  if takenH l t = true ∨ t < 0 then none
  else if t < (fromH l).1.items.length then some ((fromH l).1.items.getD t.toNat 0)
  else laidH t l
def optV (x : Option Int) : Value := .tuple #[I (x.getD 0), .bool x.isSome]

theorem ret2_ok {a b : Value} {x : Option Int} (h1 : a = I (x.getD 0)) (h2 : b = .bool x.isSome) : Ending.returned (.tuple #[a, b]) = .returned (optV x) := by rw [h1, h2]; rfl

set_option maxHeartbeats 2000000 in
theorem item_c {w : World} {B : Nat} {L : Lay} (h : RefRep w B L) (v : Nat) (hv : v < L.past.length) (t : Int) :
    Calls Try.prog 113 #[.pointer (some ⟨L.tb, 0, none⟩), I v, I t] w fun e w' => e = .returned (optV (itemH (L.hist v) t)) ∧ Below w.heap.size w w' := by
  have ht := taken_c h v hv t
  have hc := from_c h v hv
  obtain ⟨io, ic, h5, h6, h7, h8⟩ := fromH_slice h v hv
  have h1 := h.hv_cell
  obtain ⟨hb, cap, e1, c1, c2, h2⟩ := h.past_at hv
  obtain ⟨ao, lc, e2, c3, c4, h3⟩ := h.hist_at hv
  rw [e1] at h1
  rw [e2] at h2
  rw [h5] at hc
  clear e1 e2 h5
  have l0 : L.tb < w.heap.size := h.size
  have l1 := cell_lt h2
  generalize L.hist v = l at *
  generalize L.past.length = pl at *
  generalize L.tb = tb at *
  unfold maxLen at c2 c4 h7
  clear h
  have HI : Hid (itemH l t = if takenH l t = true ∨ t < 0 then none else if t < (fromH l).1.items.length then some ((fromH l).1.items.getD t.toNat 0) else laidH t l) := rfl
  generalize itemH l t = X at *
  generalize hfl : fromH l = f at *
  clear hfl
  cases hT : takenH l t with
  | true =>
    rw [hT] at ht
    have hX : X = none := by rw [HI.out]; simp [hT]
    subst hX
    clear hc HI h3 h8 hT
    go_enter Try.func113, Try.ntmps113
    go_wp2_with fail
    refine ht.mono ?_
    rintro x w1 ⟨rfl, rfl⟩
    go_wp2
    go_ret2
    exact ⟨rfl, Below.refl _ _⟩
  | false =>
    rw [hT] at ht
    by_cases hneg : t < 0
    · have hX : X = none := by rw [HI.out]; simp [hneg]
      subst hX
      clear hc HI h3 h8 hT
      go_enter Try.func113, Try.ntmps113
      go_wp2_with fail
      refine ht.mono ?_
      rintro x w1 ⟨rfl, rfl⟩
      go_wp2
      go_ret2
      exact ⟨rfl, Below.refl _ _⟩
    · have hd : decide (t < 0) = false := by simpa using hneg
      by_cases hlt : t < f.1.items.length
      · have hX : X = some (f.1.items.getD t.toNat 0) := by rw [HI.out, if_neg (by simp [hT, hneg]), if_pos hlt]
        obtain ⟨n, rfl⟩ := Int.eq_ofNat_of_zero_le (by omega : 0 ≤ t)
        obtain ⟨g, rfl, g0⟩ := h8 n (by omega)
        have hX2 : X = some (f.1.items[n]'(by omega)) := by rw [hX]; simp [List.getD_eq_getElem?_getD]; rw [List.getElem?_eq_getElem (by omega)]; rfl
        subst hX2
        have l2 := cell_lt g0
        clear hX HI h3 h8 hT
        generalize f.1.items[n]'(by omega) = y at *
        generalize f.1.items.length = m at *
        go_enter Try.func113, Try.ntmps113
        go_wp2_with fail
        refine ht.mono ?_
        rintro x w1 ⟨rfl, rfl⟩
        go_wp2_with fail
        refine hc.mono ?_
        rintro x w1 ⟨rfl, hb1⟩
        have k1 := (hb1.cell (p := ⟨g, n, none⟩) l2).trans g0
        have l3 : g < w1.heap.size := Nat.lt_of_lt_of_le l2 hb1.size
        go_wp2
        go_ret2
        exact ⟨rfl, hb1.alloc hb1.size _⟩
      · have hd2 : decide (t < (f.1.items.length : Int)) = false := by simpa using hlt
        have hX : X = laidH t l := by rw [HI.out, if_neg (by simp [hT, hneg]), if_neg hlt]
        subst hX
        clear HI h8 hT
        generalize f.1.items.length = m at *
        go_enter Try.func113, Try.ntmps113
        go_wp2_with fail
        refine ht.mono ?_
        rintro x w1 ⟨rfl, rfl⟩
        go_wp2_with fail
        refine hc.mono ?_
        rintro x w1 ⟨rfl, hb1⟩
        have k1 := (hb1.cell (p := ⟨tb, 9, none⟩) l0).trans h1
        have k2 := (hb1.cell (p := ⟨hb, v, none⟩) l1).trans h2
        have l3 : tb < w1.heap.size := Nat.lt_of_lt_of_le l0 hb1.size
        have l4 : hb < w1.heap.size := Nat.lt_of_lt_of_le l1 hb1.size
        clear h1 h2 hc
        go_wp2
        go_loop [11] (fun i => ∃ (a r : Hist), l = a ++ r ∧ laidH t l = laidH t r ∧ i = .int .i64 (r.length - 1)) (fun i => (intOf i + 1).toNat)
        case atStart => exact ⟨[], l, rfl, rfl, rfl⟩
        case round =>
          obtain ⟨a, r, rfl, hs, rfl⟩ := hrel
          cases r with
          | nil =>
            go_wp2
            go_ret2
            exact ⟨ret2_ok (by simp_all [laidH]) (by simp_all [laidH]), hb1.alloc hb1.size _⟩
          | cons e r =>
            obtain ⟨lb, rfl, g0, g1, g2, g3⟩ := h3 a e r rfl
            clear g3 h3
            have l2 := cell_lt g0
            have l5 : lb < w1.heap.size := Nat.lt_of_lt_of_le l2 hb1.size
            have k3 := (hb1.cell (p := ⟨lb, r.length * 4, none⟩) l2).trans g0
            have k4 := (hb1.cell (p := ⟨lb, r.length * 4 + 1, none⟩) l2).trans g1
            have k5 := (hb1.cell (p := ⟨lb, r.length * 4 + 2, none⟩) l2).trans g2
            clear g0 g1 g2
            have hl : r.length + 1 ≤ (a ++ e :: r).length := by simp
            have HS : Hid (laidH t (a ++ e :: r) = laidH t (e :: r)) := hs
            clear hs
            rw [show (((e :: r).length : Nat) : Int) - 1 = r.length from by simp]
            generalize (a ++ e :: r).length = ll at *
            by_cases hw : 3 < e.1.what
            · by_cases h8 : e.1.what = 8
              · have b1 : (e.1.what == 8) = true := by simp [h8]
                by_cases hn : e.1.n = t
                · have b2 : (e.1.n == t) = true := by simp [hn]
                  have HC : Hid (laidH t (a ++ e :: r) = some e.1.v) := by show _ = _; rw [HS.out]; simp [laidH, h8, hn]
                  clear h8 hn
                  go_wp2
                  go_ret2
                  exact ⟨by rw [HC.out]; rfl, hb1.alloc hb1.size _⟩
                · have b2 : (e.1.n == t) = false := by simp [hn]
                  have HC : Hid (laidH t (a ++ e :: r) = laidH t r) := by show _ = _; rw [HS.out]; simp [laidH, h8, hn]
                  clear h8 hn
                  go_wp2
                  go_round
                  case rel => exact ⟨a ++ [e], r, by simp, HC.out, by go_num⟩
                  case measure => simp [intOf]
              · have b1 : (e.1.what == 8) = false := by simp [h8]
                have HC : Hid (laidH t (a ++ e :: r) = laidH t r) := by show _ = _; rw [HS.out]; simp [laidH, h8, hw]
                clear h8
                go_wp2
                go_round
                case rel => exact ⟨a ++ [e], r, by simp, HC.out, by go_num⟩
                case measure => simp [intOf]
            · have hdw : decide (3 < e.1.what) = false := by simpa using hw
              have HC : Hid (laidH t (a ++ e :: r) = none) := by show _ = _; rw [HS.out]; simp [laidH, hw]
              go_wp2
              go_ret2
              exact ⟨by rw [HC.out]; rfl, hb1.alloc hb1.size _⟩

theorem Try.info3 : (Try.prog.info? 3).map (fun i => (i.zero, i.size, i.bytes)) = some (some (.int .i64 0), 1, 8) := by kernel_rfl

def itemsTo (l : Hist) (k : Nat) : List Int := (List.range k).filterMap fun j : Nat => itemH l (j : Int)
def putsH (l : Hist) : Int := (fromH l).1.n + manyH 6 (-1) l
def itemsH (l : Hist) : List Int := itemsTo l (putsH l).toNat

theorem itemsTo_succ (l : Hist) (k : Nat) : itemsTo l (k + 1) = itemsTo l k ++ (itemH l (k : Int)).toList := by
  simp only [itemsTo, List.range_succ, List.filterMap_append]
  cases h : itemH l (k : Int) <;> simp [h]
theorem itemsTo_le (l : Hist) (k : Nat) : (itemsTo l k).length ≤ k := by
  have := List.length_filterMap_le (fun j : Nat => itemH l (j : Int)) (List.range k)
  simpa [itemsTo] using this

set_option maxHeartbeats 2000000 in
theorem items_c {w : World} {B : Nat} {L : Lay} (h : RefRep w B L) (v : Nat) (hv : v < L.past.length) (h0 : 0 ≤ (fromH (L.hist v)).1.n) (h9 : putsH (L.hist v) ≤ 1000000000000) :
    Calls Try.prog 121 #[.pointer (some ⟨L.tb, 0, none⟩), I v] w fun e w' => ∃ x, e = .returned x ∧ w'.ownsRow w.heap.size 3 1 x (itemsH (L.hist v)).length ((itemsH (L.hist v)).map I) ∧ Below w.heap.size w w' := by
  have hm0 : 0 ≤ ((manyH 6 (-1) (L.hist v) : Nat) : Int) := by omega
  have hp := puts_c h v hv h0 (by unfold putsH at h9; omega) (by unfold putsH at h9; omega)
  obtain ⟨m, hm⟩ : ∃ m : Nat, putsH (L.hist v) = m := ⟨(putsH (L.hist v)).toNat, by unfold putsH; omega⟩
  have hc := fun w' (hb : Below w.heap.size w w') t => item_c (h.below hb) v hv t
  have HI : itemsH (L.hist v) = itemsTo (L.hist v) m := by rw [itemsH, hm]; simp
  rw [show (fromH (L.hist v)).1.n + ((manyH 6 (-1) (L.hist v) : Nat) : Int) = m from hm] at hp
  rw [hm] at h9
  rw [HI]
  clear h h0 hm HI hm0
  have hsu := itemsTo_succ (L.hist v)
  have hle := itemsTo_le (L.hist v)
  generalize hit : itemH (L.hist v) = it at *
  generalize hto : itemsTo (L.hist v) = to at *
  clear hit hto
  have HC := hc
  replace HC : Hid (∀ w', Below w.heap.size w w' → ∀ t, Calls Try.prog 113 #[.pointer (some ⟨L.tb, 0, none⟩), I v, I t] w' fun e w'' => e = .returned (optV (it t)) ∧ Below w'.heap.size w' w'') := HC
  clear hc
  generalize L.tb = tb at *
  obtain ⟨i0, hi, hz0, hz1, hz2⟩ := info_parts Try.info3
  go_enter Try.func121, Try.ntmps121
  go_wp2_with fail
  refine hp.mono ?_
  rintro x w1 ⟨rfl, hb1⟩
  clear hp
  have HS : Hid (∀ k, to (k + 1) = to k ++ (it (k : Int)).toList) := hsu
  have HZ : Hid (to 0 = []) := List.eq_nil_of_length_eq_zero (by have := hle 0; omega)
  have HL : Hid (∀ k, (to k).length ≤ k) := hle
  clear hsu hle
  go_wp2_with fail
  go_loopw [5, 7] (fun x i wr => ∃ k : Nat, k ≤ m ∧ i = .int .i64 k ∧ wr.ownsRow w.heap.size 3 1 x (to k).length ((to k).map I) ∧ Below w.heap.size w wr) (fun _ i _ => m - (intOf i).toNat)
  case atStart => exact ⟨0, Nat.zero_le _, rfl, by rw [HZ.out]; exact World.ownsRow_nil _ _ _ _, hb1⟩
  case round =>
    obtain ⟨k, hk, rfl, hown, hbr⟩ := hrel
    by_cases hlt : k < m
    · have hkl := HL.out k
      go_wp2_with fail
      refine (HC.out _ hbr k).mono ?_
      rintro x w2 ⟨rfl, hb2⟩
      have hb3 : Below w.heap.size w w2 := hbr.trans (hb2.mono hbr.size)
      have hown2 := ownsRow_below hown hb2 (Nat.le_refl _)
      have hs := HS.out k
      cases hitk : it (k : Int) with
      | none =>
        rw [hitk] at hs
        simp only [Option.toList, List.append_nil] at hs
        have HE : Hid (to (k + 1) = to k) := hs
        clear hs hown hb2 HC HS hitk
        simp only [optV, Option.getD_none, Option.isSome_none]
        go_wp2
        go_roundw
        case rel => exact ⟨k + 1, by omega, by go_num, by rw [HE.out]; exact hown2, hb3⟩
        case measure => simp [intOf]; omega
      | some y =>
        rw [hitk] at hs
        simp only [Option.toList] at hs
        have HE : Hid (to (k + 1) = to k ++ [y]) := hs
        clear hs hown hb2 HC HS hitk
        simp only [optV, Option.getD_some, Option.isSome_some]
        have hsz := hb3.size
        go_wp2_with (at_builtin; refine wpList_append_own _ rfl _ _ 27 rfl w.heap.size 3 i0 (.int .i64 0) 1 8 Try.underlying27 hi hz0 hz1 hz2 rfl (by decide) _ _ _ rfl (hown2.alloc _) ⟨w2.heap.size, 0, none⟩ 1 1 [.int .i64 y] rfl rfl ?c1 ?c2 ?c3 ?c4 ?c5 ?_)
        case c1 => exact cell_one_new _ _ _
        case c2 => intro u hu; simp at hu; subst hu; rfl
        case c3 => unfold maxLen; omega
        case c4 => omega
        case c5 => simp; omega
        · intro x' w3 hown' hgrow _
          have hb4 : Below w.heap.size w w3 := (hb3.alloc hsz _).grown hgrow (by simp; omega) (by
            intro j hj
            exact (hown2.lt j hj).1)
          clear hgrow hown2
          go_wp2
          go_roundw
          case rel => exact ⟨k + 1, by omega, by go_num, by rw [HE.out]; simpa using hown', hb4⟩
          case measure => simp [intOf]; omega
    · have e : k = m := by omega
      subst e
      go_wp2
      go_ret
      exact ⟨_, rfl, hown, hbr⟩

end Go.Proofs.Ytjnmpejcegmkhaa
