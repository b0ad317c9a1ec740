/- Contracts of the program's own functions: isConfig, firstOfDepth, place, waiting, values. What a tree of the program is in memory; the contracts of tell, Nodes and Proc. The contract of the program's Proc. The contract of the program's Nodes. Contracts of the program's plant and New. No statement of the seat is proved here. -/
import Derived.Test.YtjnmpejcegmkhaaGreatDoorRefA
import Derived.Deep.RegionWith
import Derived.Deep.MidRow
namespace Go.Proofs.YtjnmpejcegmkhaaGreatDoor
open Go.RowKit

set_option maxHeartbeats 4000000 in
theorem isConfig_c (c : Conf) (w : World) : Calls Tryz.prog 14 #[confV c] w fun e w' => e = .returned (.bool (mayC c)) ∧ Below w.heap.size w w' := by
  have HM : Hid (∀ b : Bool, (b = true ↔ ((c.kind = 0 ∨ c.kind = 1) ∧ 0 ≤ c.depth ∧ c.depth ≤ 4 ∧ 0 ≤ c.start ∧ c.start ≤ c.depth ∧ 1 ≤ c.slots ∧ c.slots ≤ 4 ∧ 1 ≤ c.width ∧ c.width ≤ 4 ∧ 0 ≤ c.spin ∧ c.spin ≤ 8 ∧ 0 ≤ c.drain ∧ c.drain ≤ 16 ∧ 1 ≤ c.procs ∧ c.procs ≤ 16)) → b = mayC c) := fun b h => mayC_mk h
  unfold confV
  generalize mayC c = M at *
  obtain ⟨kind, depth, start, slots, width, spin, drain, procs⟩ := c
  simp only at *
  by_cases hk : kind = 0 ∨ kind = 1
  · have hk2 : (kind != 0) = false ∨ ((kind != 0) = true ∧ (kind != 1) = false) := by
      rcases hk with rfl | rfl <;> simp
    have HK : Hid (kind = 0 ∨ kind = 1) := hk
    clear hk
    rcases hk2 with k0 | ⟨k0, k1⟩
    all_goals
      go_enter Tryz.func14, Tryz.ntmps14
      go_wp2
    all_goals
      go_ret
      exact ⟨ret_bool (HM.out _ (by have := HK.out; simp; omega)), (Below.refl _ _).alloc (Nat.le_refl _) _⟩
  · have k0 : (kind != 0) = true := by simp; omega
    have k1 : (kind != 1) = true := by simp; omega
    have HK : Hid (¬ (kind = 0 ∨ kind = 1)) := hk
    clear hk
    go_enter Tryz.func14, Tryz.ntmps14
    go_wp2
    go_ret
    exact ⟨ret_bool (HM.out _ (by have := HK.out; simp; omega)), (Below.refl _ _).alloc (Nat.le_refl _) _⟩

set_option maxHeartbeats 1000000 in
theorem firstOfDepth_c (d : Nat) (hd : d ≤ 5) (w : World) : Calls Tryz.prog 38 #[I d] w fun e w' => e = .returned (I ((2 ^ d : Nat) : Int)) ∧ w' = w := by
  obtain ⟨P, hP⟩ : ∃ P : Nat → Nat, P = fun k => 2 ^ k := ⟨_, rfl⟩
  have hP0 : P 0 = 1 := by rw [hP]
  have HPS : Hid (∀ k, P (k + 1) = 2 * P k) := by intro k; rw [hP]; simp [Nat.pow_succ, Nat.mul_comm]
  have HP0 : Hid (P 0 = 1) := hP0
  have HPb : Hid (∀ k, k ≤ 5 → P k ≤ 32) := by intro k hk; rw [hP]; exact Nat.le_trans (Nat.pow_le_pow_right (by omega) hk) (by decide)
  have HE : Hid (2 ^ d = P d) := by show _ = _; rw [hP]
  rw [HE.out]
  clear hP0 hP HE
  go_enter Tryz.func38, Tryz.ntmps38
  go_wp2
  go_loop [3, 4] (fun x i => ∃ k : Nat, k ≤ d ∧ i = .int .i64 k ∧ x = .int .i64 (P k)) (fun _ i => d - (intOf i).toNat)
  case atStart => exact ⟨0, Nat.zero_le _, rfl, int_of (by rw [HP0.out]; rfl)⟩
  case round =>
    obtain ⟨k, hk, rfl, rfl⟩ := hrel
    by_cases hlt : k < d
    · have hb := HPb.out k (by omega)
      go_wp2
      go_round
      case rel => exact ⟨k + 1, by omega, by go_num, int_of (by rw [HPS.out]; omega)⟩
      case measure => simp [intOf]; omega
    · have e : k = d := by omega
      subst e
      go_wp2
      go_ret
      exact ⟨rfl, rfl⟩

def placeTo : Nat → Nat → Nat → Nat → Nat × Nat
  | 0, _, d, r => (d, r)
  | f + 1, v, d, r => if 1 < v then placeTo f (v / 2) (d + 1) (2 * r + v % 2) else (d, r)

theorem placeTo_eq : ∀ v, v < 64 → placeTo 6 v 0 0 = (Nat.log2 v, rank v) := by decide +kernel

theorem placeTo_stop (f v d r : Nat) (h : ¬ 1 < v) : placeTo f v d r = (d, r) := by cases f <;> simp [placeTo, h]

set_option maxHeartbeats 1000000 in
theorem place_c (v : Nat) (hv : v < 64) (w : World) : Calls Tryz.prog 108 #[I v] w fun e w' => e = .returned (.tuple #[I (Nat.log2 v), I (rank v)]) ∧ w' = w := by
  have he := placeTo_eq v hv
  have HE : Hid (placeTo 6 v 0 0 = (Nat.log2 v, rank v)) := he
  clear he
  generalize Nat.log2 v = D at *
  generalize rank v = R at *
  go_enter Tryz.func108, Tryz.ntmps108
  go_wp2
  go_loop [0, 4, 5] (fun x dd rr => ∃ f vv d r : Nat, vv < 2 ^ f ∧ vv < 64 ∧ d + f = 6 ∧ r < 2 ^ d ∧ Hid (placeTo f vv d r = (D, R)) ∧ x = .int .i64 vv ∧ dd = .int .i64 d ∧ rr = .int .i64 r) (fun x _ _ => (intOf x).toNat)
  case atStart => exact ⟨6, v, 0, 0, by omega, hv, rfl, by decide, HE, rfl, rfl, rfl⟩
  case round =>
    obtain ⟨f, vv, d, r, h1, h2, h3, h4, h5, rfl, rfl, rfl⟩ := hrel
    have hr64 : r < 64 := Nat.lt_of_lt_of_le h4 (Nat.le_trans (Nat.pow_le_pow_right (by omega) (by omega : d ≤ 6)) (by decide))
    by_cases hgt : 1 < vv
    · cases f with
      | zero => exfalso; simp at h1; omega
      | succ f =>
        have H5 : Hid (placeTo f (vv / 2) (d + 1) (2 * r + vv % 2) = (D, R)) := by have := h5.out; simp only [placeTo, hgt, if_true] at this; exact this
        have h1' : vv / 2 < 2 ^ f := by rw [Nat.pow_succ] at h1; omega
        have h4' : 2 * r + vv % 2 < 2 ^ (d + 1) := by rw [Nat.pow_succ]; omega
        replace h1' : Hid _ := h1'
        replace h4' : Hid _ := h4'
        clear h5 h1 h4
        go_wp2
        go_round
        case rel => exact ⟨f, vv / 2, d + 1, 2 * r + vv % 2, h1', by omega, by omega, h4', H5, by go_num, by go_num, int_of (by omega)⟩
        case measure => simp [intOf]; omega
    · have H5 : Hid ((d, r) = (D, R)) := by have := h5.out; rw [placeTo_stop _ _ _ _ hgt] at this; exact this
      clear h5 h1 h4
      have e1 : d = D := by have := H5.out; simp at this; exact this.1
      have e2 : r = R := by have := H5.out; simp at this; exact this.2
      subst e1 e2
      go_wp2
      go_ret2
      exact ⟨rfl, rfl⟩

def whoAt (st wh : Nat → Int) (k : Nat) : Int := if st k = 0 then -1 else wh k
def whoTo (st wh : Nat → Int) (k : Nat) : List Int := (List.range k).map (whoAt st wh)
theorem whoTo_succ (st wh : Nat → Int) (k : Nat) : whoTo st wh (k + 1) = whoTo st wh k ++ [whoAt st wh k] := by simp [whoTo, List.range_succ]
theorem whoTo_length (st wh : Nat → Int) (k : Nat) : (whoTo st wh k).length = k := by simp [whoTo]

theorem Tryz.info3' : (Tryz.prog.info? 3).map (fun i => (i.zero, i.size, i.bytes)) = some (some (.int .i64 0), 1, 8) := by kernel_rfl

set_option maxHeartbeats 2000000 in
theorem waiting_c (w : World) (tb off : Nat) (st wh : Nat → Int) (W : Nat) (hW : W ≤ 4) (h : ∀ k, k < 4 → w.cell? ⟨tb, off + 6 + k * 3, none⟩ = some (I (st k)) ∧ w.cell? ⟨tb, off + 6 + k * 3 + 1, none⟩ = some (I (wh k))) :
    Calls Tryz.prog 109 #[.pointer (some ⟨tb, off, none⟩), I W] w fun e w' => ∃ x, e = .returned x ∧ w'.ownsRow w.heap.size 3 1 x W ((whoTo st wh W).map I) ∧ Below w.heap.size w w' := by
  have l0 := cell_lt (h 0 (by omega)).1
  obtain ⟨i0, hi, hz0, hz1, hz2⟩ := info_parts Tryz.info3'
  go_enter Tryz.func109, Tryz.ntmps109
  go_wp2_with fail
  go_loopw [5, 6, 7] (fun x i _ wr => ∃ k : Nat, k ≤ W ∧ i = .int .i64 k ∧ wr.ownsRow w.heap.size 3 1 x k ((whoTo st wh k).map I) ∧ Below w.heap.size w wr) (fun _ i _ _ => W - (intOf i).toNat)
  case atStart => exact ⟨0, Nat.zero_le _, rfl, World.ownsRow_nil _ _ _ _, Below.refl _ _⟩
  case round =>
    obtain ⟨k, hk, rfl, hown, hbr⟩ := hrel
    by_cases hlt : k < W
    · have c1 := (hbr.cell (p := ⟨tb, off + 6 + k * 3, none⟩) l0).trans (h k (by omega)).1
      have c2 := (hbr.cell (p := ⟨tb, off + 6 + k * 3 + 1, none⟩) l0).trans (h k (by omega)).2
      have hk4 : (k : Int) < 4 := by omega
      have hsz := hbr.size
      have HW : Hid (whoTo st wh (k + 1) = whoTo st wh k ++ [whoAt st wh k]) := whoTo_succ st wh k
      by_cases hs : st k = 0
      · have b1 : (st k != 0) = false := by simp [hs]
        have HA : Hid (whoAt st wh k = -1) := by show _ = _; simp [whoAt, hs]
        clear hs h
        go_wp2_with (at_builtin; go_must (refine wpList_append_own _ rfl _ _ 37 rfl w.heap.size 3 i0 (.int .i64 0) 1 8 Tryz.underlying37 hi hz0 hz1 hz2 rfl (by decide) _ _ _ rfl (hown.alloc _) ⟨wr.heap.size, 0, none⟩ 1 1 [.int .i64 (-1)] rfl rfl ?c1 ?c2 ?c3 ?c4 ?c5 ?_))
        case c1 => exact cell_one_new _ _ _
        case c2 => intro u hu; simp at hu; subst hu; rfl
        case c3 => unfold maxLen; omega
        case c4 => omega
        case c5 => simp; omega
        · intro x' w3 hown' hgrow _
          have hb4 : Below w.heap.size w w3 := (hbr.alloc hsz _).grown hgrow (by simp; omega) (fun j hj => (hown.lt j hj).1)
          clear hgrow
          go_wp2
          go_roundw
          case rel => exact ⟨k + 1, by omega, by go_num, by rw [HW.out, HA.out]; simpa using hown', hb4⟩
          case measure => simp [intOf]; omega
      · have b1 : (st k != 0) = true := by simp [hs]
        have HA : Hid (whoAt st wh k = wh k) := by show _ = _; simp [whoAt, hs]
        clear hs h
        go_wp2_with (at_builtin; go_must (refine wpList_append_own _ rfl _ _ 37 rfl w.heap.size 3 i0 (.int .i64 0) 1 8 Tryz.underlying37 hi hz0 hz1 hz2 rfl (by decide) _ _ _ rfl (hown.alloc _) ⟨wr.heap.size, 0, none⟩ 1 1 [.int .i64 (wh k)] rfl rfl ?c1 ?c2 ?c3 ?c4 ?c5 ?_))
        case c1 => exact cell_one_new _ _ _
        case c2 => intro u hu; simp at hu; subst hu; rfl
        case c3 => unfold maxLen; omega
        case c4 => omega
        case c5 => simp; omega
        · intro x' w3 hown' hgrow _
          have hb4 : Below w.heap.size w w3 := (hbr.alloc hsz _).grown hgrow (by simp; omega) (fun j hj => (hown.lt j hj).1)
          clear hgrow
          go_wp2
          go_roundw
          case rel => exact ⟨k + 1, by omega, by go_num, by rw [HW.out, HA.out]; simpa using hown', hb4⟩
          case measure => simp [intOf]; omega
    · have e : k = W := by omega
      subst e
      have hd : decide ((k : Int) < (k : Int)) = false := by simp
      go_wp2
      go_ret
      exact ⟨_, rfl, hown, hbr⟩

/-- The values of the items that lie. -/
def pvals (its : List (Int × Int)) : List Int := (its.filter fun y => y.1 == 1).map fun y => y.2
theorem pvals_snoc (its : List (Int × Int)) (y : Int × Int) : pvals (its ++ [y]) = pvals its ++ (if y.1 = 1 then [y.2] else []) := by
  simp only [pvals, List.filter_append, List.map_append]
  congr 1
  by_cases h : y.1 = 1 <;> simp [h]
theorem pvals_le (its : List (Int × Int)) : (pvals its).length ≤ its.length := by
  simp only [pvals, List.length_map]
  exact List.length_filter_le _ _

set_option maxHeartbeats 2000000 in
theorem values_c (w : World) (B tb off : Nat) (iv : Value) (its : List (Int × Int)) (h : w.cell? ⟨tb, off + 20, none⟩ = some iv) (hr : w.ownsRow B 148 2 iv its.length (its.flatMap fun y => [I y.1, I y.2])) (hl : its.length ≤ 1000000000000) :
    Calls Tryz.prog 110 #[.pointer (some ⟨tb, off, none⟩)] w fun e w' => ∃ x, e = .returned x ∧ w'.ownsRow w.heap.size 3 1 x (pvals its).length ((pvals its).map I) ∧ Below w.heap.size w w' := by
  have l0 := cell_lt h
  obtain ⟨ao, cap, rfl, c1, c2, c3, c4⟩ := ownsRow_cells hr
  have hat : ∀ k, (hk : k < its.length) → ∃ g, ao = some ⟨g, 0, none⟩ ∧ g < w.heap.size ∧ w.cell? ⟨g, k * 2, none⟩ = some (I (its[k]).1) ∧ w.cell? ⟨g, k * 2 + 1, none⟩ = some (I (its[k]).2) := by
    intro k hk
    have e : (its.flatMap fun y => [I y.1, I y.2])[k * 2]? = some (I (its[k]).1) ∧ (its.flatMap fun y => [I y.1, I y.2])[k * 2 + 1]? = some (I (its[k]).2) := by
      clear hr c1 c2 c4 hl h
      induction its generalizing k with
      | nil => simp at hk
      | cons x its ih =>
        cases k with
        | zero => simp
        | succ k =>
          simp only [List.flatMap_cons, List.getElem_cons_succ]
          rw [List.getElem?_append_right (by simp; omega), List.getElem?_append_right (by simp; omega)]
          have := ih k (by simpa using hk)
          simpa [show (k + 1) * 2 - 2 = k * 2 from by omega, show (k + 1) * 2 + 1 - 2 = k * 2 + 1 from by omega] using this
    obtain ⟨g, e1, _, c⟩ := c4 _ _ e.1
    obtain ⟨g', e1', _, c'⟩ := c4 _ _ e.2
    rw [e1] at e1'
    simp at e1'
    subst e1'
    exact ⟨g, e1, cell_lt c, c, c'⟩
  clear hr c4
  obtain ⟨i0, hi, hz0, hz1, hz2⟩ := info_parts Tryz.info3'
  unfold maxLen at c2 c3
  go_enter Tryz.func110, Tryz.ntmps110
  go_wp2_with fail
  go_loopw [3, 4] (fun x i wr => ∃ k : Nat, k ≤ its.length ∧ i = .int .i64 k ∧ wr.ownsRow w.heap.size 3 1 x (pvals (its.take k)).length ((pvals (its.take k)).map I) ∧ Below w.heap.size w wr) (fun _ i _ => its.length - (intOf i).toNat)
  case atStart => exact ⟨0, Nat.zero_le _, rfl, World.ownsRow_nil _ _ _ _, Below.refl _ _⟩
  case round =>
    obtain ⟨k, hk, rfl, hown, hbr⟩ := hrel
    have d1 := (hbr.cell (p := ⟨tb, off + 20, none⟩) l0).trans h
    by_cases hlt : k < its.length
    · obtain ⟨g, rfl, l1, q0, q⟩ := hat k hlt
      have d0 := (hbr.cell (p := ⟨g, k * 2, none⟩) l1).trans q0
      have d2 := (hbr.cell (p := ⟨g, k * 2 + 1, none⟩) l1).trans q
      have hsz := hbr.size
      have HW : Hid (pvals (its.take (k + 1)) = pvals (its.take k) ++ (if (its[k]).1 = 1 then [(its[k]).2] else [])) := by
        show _ = _
        rw [take_succ_get _ _ hlt, pvals_snoc]
      have hle : (pvals (its.take k)).length ≤ k := by
        have := pvals_le (its.take k)
        rw [List.length_take] at this
        omega
      clear hat q q0 h
      generalize (its[k]).2 = y at *
      generalize (its[k]).1 = st at *
      by_cases hst : st = 1
      · have b1 : (st == 1) = true := by simp [hst]
        have HW2 : Hid (pvals (its.take (k + 1)) = pvals (its.take k) ++ [y]) := by have := HW.out; rw [if_pos hst] at this; exact this
        clear hst HW
        generalize hpv : pvals (its.take k) = pv at *
        go_wp2_with (at_builtin; go_must (refine wpList_append_own _ rfl _ _ 37 rfl w.heap.size 3 i0 (.int .i64 0) 1 8 Tryz.underlying37 hi hz0 hz1 hz2 rfl (by decide) _ _ _ rfl (hown.alloc _) ⟨wr.heap.size, 0, none⟩ 1 1 [.int .i64 y] rfl rfl ?c1 ?c2 ?c3 ?c4 ?c5 ?_))
        case c1 => exact cell_one_new _ _ _
        case c2 => intro u hu; simp at hu; subst hu; rfl
        case c3 => unfold maxLen; omega
        case c4 => omega
        case c5 => simp; omega
        · intro x' w3 hown' hgrow _
          have hb4 : Below w.heap.size w w3 := (hbr.alloc hsz _).grown hgrow (by simp; omega) (fun j hj => (hown.lt j hj).1)
          clear hgrow
          go_wp2
          go_roundw
          case rel => exact ⟨k + 1, by omega, by go_num, by rw [HW2.out]; simpa using hown', hb4⟩
          case measure => simp [intOf]; omega
      · have b1 : (st == 1) = false := by simp [hst]
        have HW2 : Hid (pvals (its.take (k + 1)) = pvals (its.take k)) := by have := HW.out; rw [if_neg hst, List.append_nil] at this; exact this
        clear hst HW
        go_wp2
        go_roundw
        case rel => exact ⟨k + 1, by omega, by go_num, by rw [HW2.out]; exact hown, hbr⟩
        case measure => simp [intOf]; omega
    · have e : k = its.length := by omega
      subst e
      go_wp2
      go_ret
      exact ⟨_, rfl, by rw [List.take_length] at hown; exact hown, hbr⟩

/-- A slot: its state, who waits there or was met there, who met it. -/
structure SL where
  st : Int
  wh : Int
  by' : Int

structure PN where
  there : Bool
  inner : Bool
  shut : Bool
  inside : Int
  toggle : Int
  width : Int
  s0 : SL
  s1 : SL
  s2 : SL
  s3 : SL
  puts : Int
  gets : Int
  iv : Value
  items : List (Int × Int)

def PN.slot (n : PN) : Nat → SL
  | 0 => n.s0
  | 1 => n.s1
  | 2 => n.s2
  | _ => n.s3
def PN.st (n : PN) (k : Nat) : Int := (n.slot k).st
def PN.wh (n : PN) (k : Nat) : Int := (n.slot k).wh

def pnCells (n : PN) : List Value := [.bool n.there, .bool n.inner, .bool n.shut, I n.inside, I n.toggle, I n.width, I n.s0.st, I n.s0.wh, I n.s0.by', I n.s1.st, I n.s1.wh, I n.s1.by', I n.s2.st, I n.s2.wh, I n.s2.by', I n.s3.st, I n.s3.wh, I n.s3.by', I n.puts, I n.gets, n.iv]

def zeroSL : SL := ⟨0, 0, 0⟩
def zeroPN : PN := ⟨false, false, false, 0, 0, 0, zeroSL, zeroSL, zeroSL, zeroSL, 0, 0, .slice none 0 0, []⟩
def innerPN : PN := ⟨true, true, false, 0, 0, 1, zeroSL, zeroSL, zeroSL, zeroSL, 0, 0, .slice none 0 0, []⟩
def leafPN : PN := ⟨true, false, false, 0, 0, 0, zeroSL, zeroSL, zeroSL, zeroSL, 0, 0, .slice none 0 0, []⟩

structure PP where
  kind : Int
  oval : Int
  onode : Int
  phase : Int
  node : Int
  val : Int
  width : Int
  slot : Int
  mind : Int
  pat : Int
  ticket : Int
def ppCells (p : PP) : List Value := [I p.kind, I p.oval, I p.onode, I p.phase, I p.node, I p.val, I p.width, I p.slot, I p.mind, I p.pat, I p.ticket]

def zeroPP : PP := ⟨0, 0, 0, 0, 0, 0, 0, 0, 0, 0, 0⟩

structure PLay where
  tb : Nat
  c : Conf
  nodes : List PN
  pv : Value
  procs : List PP

def pConf (c : Conf) : List Value := [I c.kind, I c.depth, I c.start, I c.slots, I c.width, I c.spin, I c.drain, I c.procs]
def pTree (L : PLay) : List Value := pConf L.c ++ (L.nodes.flatMap pnCells ++ [L.pv])

structure PRep (w : World) (B : Nat) (L : PLay) : Prop where
  tree : w.heap[L.tb]? = some (.cells (pTree L).toArray 61 (0, 0))
  treeB : B ≤ L.tb
  len : L.nodes.length = 32
  prow : w.ownsRow B 96 11 L.pv L.procs.length (L.procs.flatMap ppCells)
  items : ∀ v, (hv : v < L.nodes.length) → w.ownsRow B 148 2 (L.nodes[v]).iv (L.nodes[v]).items.length ((L.nodes[v]).items.flatMap fun y => [I y.1, I y.2])
  ind : ∀ u v, (hu : u < L.nodes.length) → (hv : v < L.nodes.length) → ∀ g, (L.nodes[u]).iv.ownBlock = some g → (L.nodes[v]).iv.ownBlock = some g → u = v

theorem PRep.size {w : World} {B : Nat} {L : PLay} (h : PRep w B L) : L.tb < w.heap.size := (Array.getElem?_eq_some_iff.1 h.tree).1

theorem PRep.below {w w' : World} {B : Nat} {L : PLay} (h : PRep w B L) (hb : Below w.heap.size w w') : PRep w' B L where
  tree := by rw [hb.block _ h.size]; exact h.tree
  treeB := h.treeB
  len := h.len
  prow := ownsRow_below h.prow hb (Nat.le_refl _)
  items := fun v hv => ownsRow_below (h.items v hv) hb (Nat.le_refl _)
  ind := h.ind

theorem flat_at {α : Type} (f : α → List Value) (s : Nat) (hs : ∀ x, (f x).length = s) (l : List α) (k : Nat) (hk : k < l.length) (j : Nat) (hj : j < s) : (l.flatMap f)[k * s + j]? = (f l[k])[j]? := by
  induction l generalizing k with
  | nil => simp at hk
  | cons x l ih =>
    have hx := hs x
    cases k with
    | zero =>
      simp only [List.flatMap_cons, Nat.zero_mul, Nat.zero_add, List.getElem_cons_zero]
      rw [List.getElem?_append_left (by omega)]
    | succ k =>
      simp only [List.flatMap_cons, List.getElem_cons_succ]
      rw [List.getElem?_append_right (by rw [hx, Nat.succ_mul]; omega), hx, show (k + 1) * s + j - s = k * s + j from by rw [Nat.succ_mul]; omega]
      exact ih k (by simpa using hk)

theorem flat_length {α : Type} (f : α → List Value) (s : Nat) (hs : ∀ x, (f x).length = s) (l : List α) : (l.flatMap f).length = l.length * s := by
  induction l with
  | nil => simp
  | cons x l ih => simp only [List.flatMap_cons, List.length_append, List.length_cons, ih, hs, Nat.succ_mul]; omega

theorem pn_len (n : PN) : (pnCells n).length = 21 := rfl

/-- The cells of node v. -/
theorem PRep.ncell {w : World} {B : Nat} {L : PLay} (h : PRep w B L) (v : Nat) (hv : v < L.nodes.length) (j : Nat) (hj : j < 21) : w.cell? ⟨L.tb, 8 + v * 21 + j, none⟩ = (pnCells L.nodes[v])[j]? := by
  rw [block_cell h.tree]
  simp only [pTree, List.getElem?_toArray]
  rw [List.getElem?_append_right (by simp [pConf]; omega), List.getElem?_append_left (by rw [flat_length pnCells 21 pn_len]; simp [pConf]; omega)]
  rw [show 8 + v * 21 + j - (pConf L.c).length = v * 21 + j from by simp [pConf]; omega]
  exact flat_at pnCells 21 pn_len L.nodes v hv j hj

theorem PRep.ccell {w : World} {B : Nat} {L : PLay} (h : PRep w B L) (j : Nat) (hj : j < 8) : w.cell? ⟨L.tb, j, none⟩ = (pConf L.c)[j]? := by
  rw [block_cell h.tree]
  simp only [pTree, List.getElem?_toArray]
  rw [List.getElem?_append_left (by simp [pConf]; omega)]

theorem PRep.pcell {w : World} {B : Nat} {L : PLay} (h : PRep w B L) : w.cell? ⟨L.tb, 680, none⟩ = some L.pv := by
  rw [block_cell h.tree]
  simp only [pTree, List.getElem?_toArray]
  have h1 : (pConf L.c).length = 8 := rfl
  have h2 := flat_length pnCells 21 pn_len L.nodes
  rw [h.len] at h2
  rw [List.getElem?_append_right (by omega), List.getElem?_append_right (by omega), h1, h2]
  rfl

def pnode (c : Conf) (v : Nat) (n : PN) : ND :=
  if n.inner then ⟨v, Nat.log2 v, rank v, true, n.shut, n.inside, n.toggle, n.width, whoTo n.st n.wh c.width.toNat, 0, 0, []⟩
  else ⟨v, Nat.log2 v, rank v, false, n.shut, n.inside, 0, 0, [], n.puts, n.gets, pvals n.items⟩

theorem nb_alloc2 (w : World) (o : Obj) (arr : Array Value) (T : TypeId) : ((w.alloc o).alloc (.cells arr T)).drew.heap[w.heap.size + 1]? = some (.cells arr T (0, 0)) := by
  have := nb_alloc (w.alloc o) arr T
  have e : (w.alloc o).heap.size = w.heap.size + 1 := by simp
  rw [e] at this
  exact this

/-- Two rows of numbers and all below B stay while block b, of another type, is written. -/
structure KeepRows (w0 : World) (B b : Nat) (T : TypeId) (x1 : Value) (l1 : List Int) (x2 : Value) (l2 : List Int) (W : World) : Prop where
  blk : ∃ arr, W.heap[b]? = some (.cells arr T (0, 0))
  r1 : W.ownsRow B 3 1 x1 l1.length (l1.map I)
  r2 : W.ownsRow B 3 1 x2 l2.length (l2.map I)
  below : Below B w0 W
  hB : B ≤ b
  hT : T ≠ 3
theorem KeepRows.set {w0 : World} {B b : Nat} {T : TypeId} {x1 : Value} {l1 : List Int} {x2 : Value} {l2 : List Int} {W : World} (h : KeepRows w0 B b T x1 l1 x2 l2 W) (j : Nat) (x : Value) : KeepRows w0 B b T x1 l1 x2 l2 (W.setCell ⟨b, j, none⟩ x) := by
  obtain ⟨⟨arr, hb⟩, h1, h2, h3, h4, h5⟩ := h
  exact ⟨⟨_, nb_set hb j x⟩, ownsRow_setCell_type h1 hb h5 j x, ownsRow_setCell_type h2 hb h5 j x, h3.setCell h4 x, h4, h5⟩

set_option maxHeartbeats 4000000 in
theorem tell_c {w : World} {B : Nat} {L : PLay} (h : PRep w B L) (v : Nat) (hv : v < L.nodes.length) (hw0 : 0 ≤ L.c.width) (hw4 : L.c.width ≤ 4) (hil : (L.nodes[v]).items.length ≤ 1000000000000) :
    Calls Tryz.prog 73 #[.pointer (some ⟨L.tb, 8 + v * 21, none⟩), I v, I L.c.width] w fun e w' => ∃ wv iv, e = .returned (.agg (ndCells (pnode L.c v L.nodes[v]) wv iv).toArray) ∧
      w'.ownsRow w.heap.size 3 1 wv (pnode L.c v L.nodes[v]).waiting.length ((pnode L.c v L.nodes[v]).waiting.map I) ∧ w'.ownsRow w.heap.size 3 1 iv (pnode L.c v L.nodes[v]).items.length ((pnode L.c v L.nodes[v]).items.map I) ∧ Below w.heap.size w w' := by
  have hlen := h.len
  have hn := fun W (hb : Below w.heap.size w W) j hj => (h.below hb).ncell v hv j hj
  obtain ⟨WD, hWD⟩ := Int.eq_ofNat_of_zero_le hw0
  have hi := fun W (hb : Below w.heap.size w W) => values_c W B L.tb (8 + v * 21) (L.nodes[v]).iv (L.nodes[v]).items ((h.below hb).ncell v hv 20 (by omega)) ((h.below hb).items v hv) hil
  have hwt := fun W (hb : Below w.heap.size w W) => waiting_c W L.tb (8 + v * 21) (L.nodes[v]).st (L.nodes[v]).wh WD (by omega) (fun k hk => by
    have : k = 0 ∨ k = 1 ∨ k = 2 ∨ k = 3 := by omega
    rcases this with rfl | rfl | rfl | rfl
    · exact ⟨(h.below hb).ncell v hv 6 (by omega), (h.below hb).ncell v hv 7 (by omega)⟩
    · exact ⟨(h.below hb).ncell v hv 9 (by omega), (h.below hb).ncell v hv 10 (by omega)⟩
    · exact ⟨(h.below hb).ncell v hv 12 (by omega), (h.below hb).ncell v hv 13 (by omega)⟩
    · exact ⟨(h.below hb).ncell v hv 15 (by omega), (h.below hb).ncell v hv 16 (by omega)⟩)
  have hpl := fun W => place_c v (by omega) W
  have ht := h.size
  have hpn : pnode L.c v L.nodes[v] = if (L.nodes[v]).inner then ⟨v, Nat.log2 v, rank v, true, (L.nodes[v]).shut, (L.nodes[v]).inside, (L.nodes[v]).toggle, (L.nodes[v]).width, whoTo (L.nodes[v]).st (L.nodes[v]).wh WD, 0, 0, []⟩
      else ⟨v, Nat.log2 v, rank v, false, (L.nodes[v]).shut, (L.nodes[v]).inside, 0, 0, [], (L.nodes[v]).puts, (L.nodes[v]).gets, pvals (L.nodes[v]).items⟩ := by
    rw [pnode, hWD]; rfl
  rw [hpn, hWD]
  clear hpn hWD hw0 hw4 hil hlen h
  generalize L.nodes[v] = n at *
  generalize L.tb = tb at *
  replace hn : Hid _ := hn
  replace hi : Hid _ := hi
  replace hwt : Hid _ := hwt
  replace hpl : Hid _ := hpl
  generalize pvals n.items = vl at *
  generalize Nat.log2 v = dep at *
  generalize rank v = rk at *
  obtain ⟨there, inner, shut, inside, toggle, width, s0, s1, s2, s3, puts, gets, iv, items⟩ := n
  simp only at *
  cases inner
  all_goals simp only [if_true, Bool.false_eq_true, if_false]
  all_goals
    go_enter Tryz.func73, Tryz.ntmps73
    go_wp2_with fail
    refine (hpl.out _).mono ?_
    rintro e w1 ⟨rfl, rfl⟩
    have hb1 := (Below.refl w.heap.size w).alloc (Nat.le_refl _) (.cells #[I 0, I 0, I 0, .bool false, .bool false, I 0, I 0, I 0, .slice none 0 0, I 0, I 0, .slice none 0 0] 105)
    have c1 := hn.out w (Below.refl _ _) 1 (by omega)
    have c2 := hn.out w (Below.refl _ _) 2 (by omega)
    have c3 := hn.out w (Below.refl _ _) 3 (by omega)
    have c4 := hn.out w (Below.refl _ _) 4 (by omega)
    have c5 := hn.out w (Below.refl _ _) 5 (by omega)
    have c14 := hn.out w (Below.refl _ _) 18 (by omega)
    have c15 := hn.out w (Below.refl _ _) 19 (by omega)
    simp only [pnCells, List.getElem?_cons_succ, List.getElem?_cons_zero] at c1 c2 c3 c4 c5 c14 c15
    go_wp2_with fail
    go_region
    go_wp2_with fail
  · have hb2 : Below w.heap.size w ((w.alloc (.cells #[I 0, I 0, I 0, .bool false, .bool false, I 0, I 0, I 0, .slice none 0 0, I 0, I 0, .slice none 0 0] 105)).alloc (.cells #[I v, I dep, I rk, .bool false, .bool shut, I inside, I 0, I 0, .slice none 0 0, I puts, I gets, .slice none 0 0] 105)).drew := (((Below.refl _ _).alloc (Nat.le_refl _) _).alloc (by simp) _).drew
    refine (hi.out _ hb2).mono ?_
    rintro e w2 ⟨x, rfl, hown, hb3⟩
    have hb4 := hb2.trans (hb3.mono hb2.size)
    have na : w2.heap[w.heap.size]? = some (.cells #[I 0, I 0, I 0, .bool false, .bool false, I 0, I 0, I 0, .slice none 0 0, I 0, I 0, .slice none 0 0] 105 (0, 0)) :=
      (hb3.block _ (by show w.heap.size < ((w.alloc _).alloc _).heap.size; simp; omega)).trans (by show ((w.alloc _).alloc _).heap[w.heap.size]? = _; rw [Below.heap_alloc _ _ _ (by simp)]; exact nb_alloc _ _ _)
    have nc : w2.heap[w.heap.size + 1]? = some (.cells #[I v, I dep, I rk, .bool false, .bool shut, I inside, I 0, I 0, .slice none 0 0, I puts, I gets, .slice none 0 0] 105 (0, 0)) :=
      (hb3.block _ (by show w.heap.size + 1 < ((w.alloc _).alloc _).heap.size; simp)).trans (nb_alloc2 _ _ _ _)
    have hown2 := ownsRow_mono hown hb2.size
    obtain ⟨ao, cp, rfl, _⟩ := ownsRow_cells hown
    clear hb2 hb3 hown c1 c2 c3 c4 c5 c14 c15 hn hi hwt hpl
    have hs1 := (Array.getElem?_eq_some_iff.1 na).1
    have nd := nb_set nc 11 (.slice ao vl.length cp)
    have nae : (w2.setCell ⟨w.heap.size + 1, 11, none⟩ (.slice ao vl.length cp)).heap[w.heap.size]? = _ := (Below.heap_setCell _ _ _ _ (by simp)).trans na
    have hb5 := hb4.setCell (p := ⟨w.heap.size + 1, 11, none⟩) (by simp) (.slice ao vl.length cp)
    have hown3 := ownsRow_setCell_type hown2 nc (by decide) 11 (.slice ao vl.length cp)
    obtain ⟨f1, f2⟩ := nb_facts na
    obtain ⟨g1, g2⟩ := nb_facts nc
    simp only [Array.setIfInBounds] at nd
    have ND : Hid _ := nd
    have NA : Hid _ := nae
    have HO : Hid _ := hown3
    have HB : Hid _ := hb5
    clear nd nae hown3 hb5 hb4 hown2
    have hk : KeepRows w w.heap.size w.heap.size 105 (.slice none 0 0) [] (.slice ao vl.length cp) vl (w2.setCell ⟨w.heap.size + 1, 11, none⟩ (.slice ao vl.length cp)) :=
      ⟨⟨_, NA.out⟩, World.ownsRow_nil _ _ _ _, HO.out, HB.out, Nat.le_refl _, by decide⟩
    replace hk : Hid _ := hk
    go_wp2
    refine bodyPost_ret (v := .agg (ndCells ⟨v, dep, rk, false, shut, inside, 0, 0, [], puts, gets, vl⟩ (.slice none 0 0) (.slice ao vl.length cp)).toArray) (by simp [results, Tryz.results73, go_sem, ndCells, f1]) rfl ⟨_, _, rfl, ?_⟩
    have hk2 := ((((((((((((hk.out.set 0 (I v)).set 1 (I dep)).set 2 (I rk)).set 3 (.bool false)).set 4 (.bool shut)).set 5 (I inside)).set 6 (I 0)).set 7 (I 0)).set 8 (.slice none 0 0)).set 9 (I puts)).set 10 (I gets)).set 11 (.slice ao vl.length cp))
    exact ⟨hk2.r1, hk2.r2, hk2.below⟩
  · have hb2 : Below w.heap.size w ((w.alloc (.cells #[I 0, I 0, I 0, .bool false, .bool false, I 0, I 0, I 0, .slice none 0 0, I 0, I 0, .slice none 0 0] 105)).alloc (.cells #[I v, I dep, I rk, .bool true, .bool shut, I inside, I toggle, I width, .slice none 0 0, I 0, I 0, .slice none 0 0] 105)).drew := (((Below.refl _ _).alloc (Nat.le_refl _) _).alloc (by simp) _).drew
    refine (hwt.out _ hb2).mono ?_
    rintro e w2 ⟨x, rfl, hown, hb3⟩
    have hb4 := hb2.trans (hb3.mono hb2.size)
    have na : w2.heap[w.heap.size]? = some (.cells #[I 0, I 0, I 0, .bool false, .bool false, I 0, I 0, I 0, .slice none 0 0, I 0, I 0, .slice none 0 0] 105 (0, 0)) :=
      (hb3.block _ (by show w.heap.size < ((w.alloc _).alloc _).heap.size; simp; omega)).trans (by show ((w.alloc _).alloc _).heap[w.heap.size]? = _; rw [Below.heap_alloc _ _ _ (by simp)]; exact nb_alloc _ _ _)
    have nc : w2.heap[w.heap.size + 1]? = some (.cells #[I v, I dep, I rk, .bool true, .bool shut, I inside, I toggle, I width, .slice none 0 0, I 0, I 0, .slice none 0 0] 105 (0, 0)) :=
      (hb3.block _ (by show w.heap.size + 1 < ((w.alloc _).alloc _).heap.size; simp)).trans (nb_alloc2 _ _ _ _)
    have hown2 := ownsRow_mono hown hb2.size
    obtain ⟨ao, cp, rfl, _⟩ := ownsRow_cells hown
    clear hb2 hb3 hown c1 c2 c3 c4 c5 c14 c15 hn hi hwt hpl
    have hs1 := (Array.getElem?_eq_some_iff.1 na).1
    have nd := nb_set nc 8 (.slice ao WD cp)
    have nae : (w2.setCell ⟨w.heap.size + 1, 8, none⟩ (.slice ao WD cp)).heap[w.heap.size]? = _ := (Below.heap_setCell _ _ _ _ (by simp)).trans na
    have hb5 := hb4.setCell (p := ⟨w.heap.size + 1, 8, none⟩) (by simp) (.slice ao WD cp)
    have hown3 := ownsRow_setCell_type hown2 nc (by decide) 8 (.slice ao WD cp)
    obtain ⟨f1, f2⟩ := nb_facts na
    obtain ⟨g1, g2⟩ := nb_facts nc
    simp only [Array.setIfInBounds] at nd
    have ND : Hid _ := nd
    have NA : Hid _ := nae
    have HO : Hid _ := hown3
    have HB : Hid _ := hb5
    clear nd nae hown3 hb5 hb4 hown2
    have hk : KeepRows w w.heap.size w.heap.size 105 (.slice ao WD cp) (whoTo (PN.st ⟨there, true, shut, inside, toggle, width, s0, s1, s2, s3, puts, gets, iv, items⟩) (PN.wh ⟨there, true, shut, inside, toggle, width, s0, s1, s2, s3, puts, gets, iv, items⟩) WD) (.slice none 0 0) [] (w2.setCell ⟨w.heap.size + 1, 8, none⟩ (.slice ao WD cp)) :=
      ⟨⟨_, NA.out⟩, by rw [whoTo_length]; exact HO.out, World.ownsRow_nil _ _ _ _, HB.out, Nat.le_refl _, by decide⟩
    replace hk : Hid _ := hk
    go_wp2
    refine bodyPost_ret (v := .agg (ndCells ⟨v, dep, rk, true, shut, inside, toggle, width, [], 0, 0, []⟩ (.slice ao WD cp) (.slice none 0 0)).toArray) (by simp [results, Tryz.results73, go_sem, ndCells, f1]) rfl ⟨_, _, rfl, ?_⟩
    have hk2 := ((((((((((((hk.out.set 0 (I v)).set 1 (I dep)).set 2 (I rk)).set 3 (.bool true)).set 4 (.bool shut)).set 5 (I inside)).set 6 (I toggle)).set 7 (I width)).set 8 (.slice ao WD cp)).set 9 (I 0)).set 10 (I 0)).set 11 (.slice none 0 0))
    exact ⟨hk2.r1, hk2.r2, hk2.below⟩

def pprocV (L : PLay) (n : Int) : Value :=
  if 0 ≤ n ∧ n < L.procs.length then
    .tuple #[.agg #[I (L.procs.getD n.toNat zeroPP).phase, I (L.procs.getD n.toNat zeroPP).node, I (L.procs.getD n.toNat zeroPP).val], I 0]
  else .tuple #[.agg #[I 0, I 0, I 0], I 5]

theorem pp_len (p : PP) : (ppCells p).length = 11 := rfl

set_option maxHeartbeats 2000000 in
theorem pproc_c {w : World} {B : Nat} {L : PLay} (h : PRep w B L) (n : Int) :
    Calls Tryz.prog 25 #[.pointer (some ⟨L.tb, 0, none⟩), I n] w fun e w' => e = .returned (pprocV L n) ∧ Below w.heap.size w w' := by
  have h1 := h.pcell
  obtain ⟨ao, cap, e1, c1, c2, c3, h2⟩ := ownsRow_cells h.prow
  rw [e1] at h1
  clear e1
  have l0 := h.size
  have HV : Hid (pprocV L n = if 0 ≤ n ∧ n < L.procs.length then
    .tuple #[.agg #[I (L.procs.getD n.toNat zeroPP).phase, I (L.procs.getD n.toNat zeroPP).node, I (L.procs.getD n.toNat zeroPP).val], I 0]
  else .tuple #[.agg #[I 0, I 0, I 0], I 5]) := rfl
  generalize pprocV L n = V at *
  have hp : ∀ i, (hi : i < L.procs.length) → ∃ g, ao = some ⟨g, 0, none⟩ ∧ g < w.heap.size ∧ ∀ j, j < 11 → w.cell? ⟨g, i * 11 + j, none⟩ = (ppCells L.procs[i])[j]? := by
    intro i hi
    have key : ∀ j, j < 11 → ∃ g, ao = some ⟨g, 0, none⟩ ∧ g < w.heap.size ∧ w.cell? ⟨g, i * 11 + j, none⟩ = (ppCells L.procs[i])[j]? := by
      intro j hj
      have hlt : j < (ppCells L.procs[i]).length := hj
      obtain ⟨g, e, _, c⟩ := h2 (i * 11 + j) ((ppCells L.procs[i])[j]) (by rw [flat_at ppCells 11 pp_len L.procs i hi j hj, List.getElem?_eq_getElem hlt])
      exact ⟨g, e, cell_lt c, by rw [c, List.getElem?_eq_getElem hlt]⟩
    obtain ⟨g, rfl, hg, _⟩ := key 0 (by omega)
    refine ⟨g, rfl, hg, fun j hj => ?_⟩
    obtain ⟨g', e, _, c⟩ := key j hj
    simp at e; subst e; exact c
  clear h2
  generalize hps : L.procs = ps at *
  generalize L.tb = tb at *
  unfold maxLen at c2 c3
  clear h
  by_cases hn : 0 ≤ n ∧ n < ps.length
  · obtain ⟨i, rfl⟩ := Int.eq_ofNat_of_zero_le hn.1
    have hi : i < ps.length := by omega
    have hV := HV.out
    rw [if_pos hn] at hV
    simp only [Int.toNat_natCast, List.getD_eq_getElem?_getD, List.getElem?_eq_getElem hi, Option.getD_some] at hV
    subst hV
    obtain ⟨g, rfl, l1, F⟩ := hp i hi
    have p0 := F 0 (by omega); have p1 := F 1 (by omega); have p2 := F 2 (by omega); have p3 := F 3 (by omega); have p4 := F 4 (by omega); have p5 := F 5 (by omega)
    have p6 := F 6 (by omega); have p7 := F 7 (by omega); have p8 := F 8 (by omega); have p9 := F 9 (by omega); have p10 := F 10 (by omega)
    clear HV hn hp F
    generalize ps[i] = p at *
    simp only [ppCells, Nat.add_zero, List.getElem?_cons_succ, List.getElem?_cons_zero] at p0 p1 p2 p3 p4 p5 p6 p7 p8 p9 p10
    go_enter Tryz.func25, Tryz.ntmps25
    go_wp2
    exact bodyPost_ret (v := .tuple #[.agg #[I p.phase, I p.node, I p.val], I 0]) (by simp [results, Tryz.results25, go_sem]) rfl ⟨rfl, ((Below.refl _ _).alloc (Nat.le_refl _) _).alloc (by simp) _⟩
  · have hV := HV.out
    rw [if_neg hn] at hV
    subst hV
    clear HV hp
    by_cases h0 : n < 0
    · clear hn
      go_enter Tryz.func25, Tryz.ntmps25
      go_wp2
      exact bodyPost_ret (v := .tuple #[.agg #[I 0, I 0, I 0], I 5]) (by simp [results, Tryz.results25, go_sem]) rfl ⟨rfl, (Below.refl _ _).alloc (Nat.le_refl _) _⟩
    · have hge : (ps.length : Int) ≤ n := by omega
      clear hn
      have hd : decide (n < 0) = false := by simpa using h0
      go_enter Tryz.func25, Tryz.ntmps25
      go_wp2
      exact bodyPost_ret (v := .tuple #[.agg #[I 0, I 0, I 0], I 5]) (by simp [results, Tryz.results25, go_sem]) rfl ⟨rfl, (Below.refl _ _).alloc (Nat.le_refl _) _⟩

/-- The nodes that are there. -/
def pnodesTo (L : PLay) (k : Nat) : List ND := (List.range k).filterMap fun v => if v = 0 ∨ (L.nodes.getD v zeroPN).there = false then none else some (pnode L.c v (L.nodes.getD v zeroPN))
def pnodes (L : PLay) : List ND := pnodesTo L 32
theorem pnodesTo_succ (L : PLay) (k : Nat) (hk : k < L.nodes.length) (h0 : k ≠ 0) : pnodesTo L (k + 1) = pnodesTo L k ++ (if (L.nodes[k]).there = false then [] else [pnode L.c k L.nodes[k]]) := by
  simp only [pnodesTo, List.range_succ, List.filterMap_append]
  congr 1
  have e : L.nodes.getD k zeroPN = L.nodes[k] := by simp [List.getD_eq_getElem?_getD, List.getElem?_eq_getElem hk]
  simp only [List.filterMap_cons, List.filterMap_nil, e, h0, false_or]
  cases (L.nodes[k]).there <;> simp
theorem pnodesTo_le (L : PLay) (k : Nat) : (pnodesTo L k).length ≤ k := by
  have := List.length_filterMap_le (fun v => if v = 0 ∨ (L.nodes.getD v zeroPN).there = false then none else some (pnode L.c v (L.nodes.getD v zeroPN))) (List.range k)
  simpa [pnodesTo] using this

theorem cells_new_at (w : World) (xs : List Value) (T : TypeId) (n : Nat) (hn : n = w.heap.size) : ∀ (j : Nat) (u : Value), xs[j]? = some u → (w.alloc (.cells xs.toArray T)).cell? ((⟨n, 0, none⟩ : Addr).add j) = some u := by
  subst hn; exact cells_new w xs T

/-- Rows and nodes stay while block b, of another type than the rows and above the nodes, is written. -/
structure KeepB (w0 wr : World) (B b : Nat) (T : TypeId) (x : Value) (l : List (ND × Value × Value)) (x1 : Value) (l1 : List Int) (x2 : Value) (l2 : List Int) (W : World) : Prop where
  blk : ∃ arr, W.heap[b]? = some (.cells arr T (0, 0))
  rep : NodesRep wr B x l
  r1 : W.ownsRow B 3 1 x1 l1.length (l1.map I)
  r2 : W.ownsRow B 3 1 x2 l2.length (l2.map I)
  below : Below B w0 wr
  above : Below b wr W
  hb : b = wr.heap.size
  hB : B ≤ b
  hT : T ≠ 3
theorem KeepB.set {w0 wr : World} {B b : Nat} {T : TypeId} {x : Value} {l : List (ND × Value × Value)} {x1 : Value} {l1 : List Int} {x2 : Value} {l2 : List Int} {W : World} (h : KeepB w0 wr B b T x l x1 l1 x2 l2 W) (j : Nat) (y : Value) : KeepB w0 wr B b T x l x1 l1 x2 l2 (W.setCell ⟨b, j, none⟩ y) := by
  obtain ⟨⟨arr, hb⟩, h0, h1, h2, h3, h4, h5, h6, h7⟩ := h
  exact ⟨⟨_, nb_set hb j y⟩, h0, ownsRow_setCell_type h1 hb h7 j y, ownsRow_setCell_type h2 hb h7 j y, h3, h4.setCell (Nat.le_refl _) y, h5, h6, h7⟩
theorem KeepB.nodes {w0 wr : World} {B b : Nat} {T : TypeId} {x : Value} {l : List (ND × Value × Value)} {x1 : Value} {l1 : List Int} {x2 : Value} {l2 : List Int} {W : World} (h : KeepB w0 wr B b T x l x1 l1 x2 l2 W) : NodesRep W B x l := h.rep.below h.above (by rw [h.hb]; exact Nat.le_refl _)
theorem KeepB.all {w0 wr : World} {B b : Nat} {T : TypeId} {x : Value} {l : List (ND × Value × Value)} {x1 : Value} {l1 : List Int} {x2 : Value} {l2 : List Int} {W : World} (h : KeepB w0 wr B b T x l x1 l1 x2 l2 W) : Below B w0 W := h.below.trans (h.above.mono h.hB)
theorem KeepB.size {w0 wr : World} {B b : Nat} {T : TypeId} {x : Value} {l : List (ND × Value × Value)} {x1 : Value} {l1 : List Int} {x2 : Value} {l2 : List Int} {W : World} (h : KeepB w0 wr B b T x l x1 l1 x2 l2 W) : B ≤ W.heap.size := by
  have := h.above.size; have := h.hb; have := h.hB; omega

theorem snoc_nodes_end {w w1 : World} {x x' : Value} {l : List (ND × Value × Value)} {d : ND} {wv iv : Value} {b : Nat} {o : Obj} (hrep : NodesRep w1 b x l)
    (r1 : w1.ownsRow b 3 1 wv d.waiting.length (d.waiting.map I)) (r2 : w1.ownsRow b 3 1 iv d.items.length (d.items.map I))
    (hbw : Below b w w1) (hb : b ≤ w1.heap.size) {w3 : World} (hown : w3.ownsRow b 105 12 x' (l.length + 1) (ndsCells l ++ ndCells d wv iv)) (hg : (w1.alloc o).grownBy w3 x.ownBlock) :
    NodesRep w3 b x' (l ++ [(d, wv, iv)]) ∧ Below b w w3 :=
  ⟨nodes_snoc hrep r1 r2 hown hg, (hbw.alloc hb _).grown hg (by simp; omega) (fun g hg' => (hrep.row.lt g hg').1)⟩

set_option maxHeartbeats 4000000 in
set_option maxRecDepth 100000 in
theorem pnodes_c {w : World} {B : Nat} {L : PLay} (h : PRep w B L) (hw0 : 0 ≤ L.c.width) (hw4 : L.c.width ≤ 4) (hil : ∀ v, 1 ≤ v → (hv : v < L.nodes.length) → (L.nodes[v]).items.length ≤ 1000000000000) :
    Calls Tryz.prog 47 #[.pointer (some ⟨L.tb, 0, none⟩)] w fun e w' => ∃ x l, e = .returned x ∧ NodesRep w' w.heap.size x l ∧ l.map (fun y => y.1) = pnodes L ∧ Below w.heap.size w w' := by
  have hlen := h.len
  have HT : Hid (∀ W, Below w.heap.size w W → ∀ v, 1 ≤ v → (hv : v < L.nodes.length) → Calls Tryz.prog 73 #[.pointer (some ⟨L.tb, 8 + v * 21, none⟩), I v, I L.c.width] W fun e w' => ∃ wv iv, e = .returned (.agg (ndCells (pnode L.c v L.nodes[v]) wv iv).toArray) ∧
      w'.ownsRow W.heap.size 3 1 wv (pnode L.c v L.nodes[v]).waiting.length ((pnode L.c v L.nodes[v]).waiting.map I) ∧ w'.ownsRow W.heap.size 3 1 iv (pnode L.c v L.nodes[v]).items.length ((pnode L.c v L.nodes[v]).items.map I) ∧ Below W.heap.size W w') :=
    fun W hb v h1 hv => tell_c (h.below hb) v hv hw0 hw4 (hil v h1 hv)
  have HN : Hid (∀ W, Below w.heap.size w W → ∀ v, (hv : v < L.nodes.length) → W.cell? ⟨L.tb, 8 + v * 21, none⟩ = some (.bool (L.nodes[v]).there)) := fun W hb v hv => (h.below hb).ncell v hv 0 (by omega)
  have HW : Hid (∀ W, Below w.heap.size w W → W.cell? ⟨L.tb, 4, none⟩ = some (I L.c.width)) := fun W hb => (h.below hb).ccell 4 (by omega)
  obtain ⟨i65, hi65, hz650, hz651, hz652⟩ := info_parts Tryz.info105
  clear h hil
  go_enter Tryz.func47, Tryz.ntmps47
  go_wp2_with fail
  go_loopw [3, 4] (fun x i wr => ∃ (k : Nat) (l : List (ND × Value × Value)), 1 ≤ k ∧ k ≤ 32 ∧ i = .int .i64 k ∧ NodesRep wr w.heap.size x l ∧ l.map (fun y => y.1) = pnodesTo L k ∧ Below w.heap.size w wr) (fun _ i _ => 32 - (intOf i).toNat)
  case atStart => exact ⟨1, [], by omega, by omega, rfl, ⟨World.ownsRow_nil _ _ _ _, fun y hy => absurd hy (by simp), fun y hy => absurd hy (by simp)⟩, by simp [pnodesTo], Below.refl _ _⟩
  case round =>
    obtain ⟨k, l, hk1, hk, rfl, hrep, hl, hbr⟩ := hrel
    have HL : Hid (l.map (fun y => y.1) = pnodesTo L k) := hl
    clear hl
    obtain ⟨ao2, cp2, rfl, d4, d5, d6, _⟩ := ownsRow_cells hrep.row
    by_cases hlt : k < 32
    · have hkn : k < L.nodes.length := by omega
      have hsu := pnodesTo_succ L k hkn (by omega)
      have c0 := HN.out _ hbr k hkn
      have c4 := HW.out _ hbr
      have hct := HT.out _ hbr k hk1 hkn
      have hk32 : (k : Int) < 32 := by omega
      have ltb : L.tb < wr.heap.size := cell_lt c4
      have hll : l.length ≤ 32 := by
        have := congrArg List.length HL.out
        simp only [List.length_map] at this
        have := pnodesTo_le L k
        omega
      cases hth : (L.nodes[k]).there with
      | false =>
        rw [hth] at c0
        rw [if_pos hth, List.append_nil] at hsu
        have HE : Hid (pnodesTo L (k + 1) = pnodesTo L k) := hsu
        clear hsu hth hct
        go_wp2
        go_roundw
        case rel => exact ⟨k + 1, l, by omega, by omega, by go_num, hrep, by rw [HE.out]; exact HL.out, hbr⟩
        case measure => simp [intOf]; omega
      | true =>
        rw [hth] at c0
        rw [if_neg (by simp [hth])] at hsu
        have HE : Hid (pnodesTo L (k + 1) = pnodesTo L k ++ [pnode L.c k L.nodes[k]]) := hsu
        clear hsu hth
        have HTk := fun W hb => HT.out W hb k hk1 hkn
        replace HTk : Hid _ := HTk
        generalize pnode L.c k L.nodes[k] = d at *
        clear hct
        go_wp2_with fail
        go_region_with (first
          | (go_at_call 73; refine (HTk.out _ hbr.drew).mono ?_; rintro x w3 ⟨wv, iv, rfl, r1, r2, hb5⟩; obtain ⟨ao1, cp1, rfl, _⟩ := ownsRow_cells r1; obtain ⟨ao3, cp3, rfl, _⟩ := ownsRow_cells r2; unfold ndCells)
          | (go_at_call 73; refine (HTk.out _ (hbr.alloc hbr.size _).drew).mono ?_; rintro x w3 ⟨wv, iv, rfl, r1, r2, hb5⟩; obtain ⟨ao1, cp1, rfl, _⟩ := ownsRow_cells r1; obtain ⟨ao3, cp3, rfl, _⟩ := ownsRow_cells r2; have nz := (hb5.block wr.heap.size (by show wr.heap.size < (wr.alloc _).heap.size; simp)).trans (nb_alloc _ _ _); obtain ⟨f1, f2⟩ := nb_facts nz; unfold ndCells))
        · have hb6 : Below wr.heap.size wr w3 := ⟨hb5.os, hb5.tape, hb5.output, hb5.size, hb5.block⟩
          have hsz : w.heap.size ≤ w3.heap.size := Nat.le_trans hbr.size hb6.size
          have hrepW := (hrep.below hb6 (Nat.le_refl _)).below ((Below.refl _ w3).alloc (Nat.le_refl _) (.cells #[I d.num, I d.depth, I d.rank, .bool d.inner, .bool d.shut, I d.inside, I d.toggle, I d.width, .slice ao1 d.waiting.length cp1, I d.puts, I d.gets, .slice ao3 d.items.length cp3] 105)) (Nat.le_refl _)
          have r1' := (ownsRow_mono r1 hbr.size).alloc (.cells #[I d.num, I d.depth, I d.rank, .bool d.inner, .bool d.shut, I d.inside, I d.toggle, I d.width, .slice ao1 d.waiting.length cp1, I d.puts, I d.gets, .slice ao3 d.items.length cp3] 105)
          have r2' := (ownsRow_mono r2 hbr.size).alloc (.cells #[I d.num, I d.depth, I d.rank, .bool d.inner, .bool d.shut, I d.inside, I d.toggle, I d.width, .slice ao1 d.waiting.length cp1, I d.puts, I d.gets, .slice ao3 d.items.length cp3] 105)
          have hb7 := (hbr.trans (hb6.mono hbr.size)).alloc hsz (.cells #[I d.num, I d.depth, I d.rank, .bool d.inner, .bool d.shut, I d.inside, I d.toggle, I d.width, .slice ao1 d.waiting.length cp1, I d.puts, I d.gets, .slice ao3 d.items.length cp3] 105)
          clear hb5 hb6 r1 r2 hrep hbr c0 c4
          go_wp2_with (at_builtin; go_must (refine wpList_append_own _ rfl _ _ 102 rfl w.heap.size 105 i65 _ 12 120 Tryz.underlying102 hi65 hz650 hz651 hz652 rfl (by decide) _ _ _ rfl (hrepW.row.alloc _) ⟨_, 0, none⟩ 1 1 (ndCells d (.slice ao1 d.waiting.length cp1) (.slice ao3 d.items.length cp3)) rfl rfl ?c1 ?c2 ?c3 ?c4 ?c5 ?_))
          case c1 =>
            have := cells_new (w3.alloc (.cells #[I d.num, I d.depth, I d.rank, .bool d.inner, .bool d.shut, I d.inside, I d.toggle, I d.width, .slice ao1 d.waiting.length cp1, I d.puts, I d.gets, .slice ao3 d.items.length cp3] 105)) (ndCells d (.slice ao1 d.waiting.length cp1) (.slice ao3 d.items.length cp3)) 105
            simp only [World.size_alloc] at this
            exact this
          case c2 => exact nd_one _ _ _ _ _ _ _
          case c3 => unfold maxLen; omega
          case c4 => omega
          case c5 => simp; omega
          · intro x' w4 hown' hgrow _
            obtain ⟨q1, q2⟩ := snoc_nodes_end hrepW r1' r2' hb7 (by simp; omega) hown' hgrow
            clear hown' hgrow hrepW r1' r2' hb7
            go_wp2
            go_roundw
            case rel => exact ⟨k + 1, _, by omega, by omega, by go_num, q1, by rw [List.map_append, HL.out, HE.out]; rfl, q2⟩
            case measure => simp [intOf]; omega
        all_goals
          have hb6 : Below wr.heap.size wr w3 := ((Below.refl _ wr).alloc (Nat.le_refl _) _).drew.trans (hb5.mono (by show wr.heap.size ≤ (wr.alloc _).heap.size; simp))
          have hsz1 : wr.heap.size ≤ (wr.alloc (.cells #[I 0, I 0, I 0, .bool false, .bool false, I 0, I 0, I 0, .slice none 0 0, I 0, I 0, .slice none 0 0] 105)).heap.size := by simp
          have hk0 : KeepB w wr w.heap.size wr.heap.size 105 (.slice ao2 l.length cp2) l (.slice ao1 d.waiting.length cp1) d.waiting (.slice ao3 d.items.length cp3) d.items w3 :=
            ⟨⟨_, nz⟩, hrep, ownsRow_mono r1 (Nat.le_trans hbr.size hsz1), ownsRow_mono r2 (Nat.le_trans hbr.size hsz1), hbr, hb6, rfl, hbr.size, by decide⟩
          have hk := ((((((((((((hk0.set 0 (I d.num)).set 1 (I d.depth)).set 2 (I d.rank)).set 3 (.bool d.inner)).set 4 (.bool d.shut)).set 5 (I d.inside)).set 6 (I d.toggle)).set 7 (I d.width)).set 8 (.slice ao1 d.waiting.length cp1)).set 9 (I d.puts)).set 10 (I d.gets)).set 11 (.slice ao3 d.items.length cp3))
          replace hk : Hid _ := hk
          clear hk0 hb5 hb6 r1 r2 hrep hbr c0 c4 nz hsz1
          go_wp2_with (at_builtin; go_must (refine wpList_append_own _ rfl _ _ 102 rfl w.heap.size 105 i65 _ 12 120 Tryz.underlying102 hi65 hz650 hz651 hz652 rfl (by decide) _ _ _ rfl (hk.out.nodes.row.alloc _) ⟨_, 0, none⟩ 1 1 (ndCells d (.slice ao1 d.waiting.length cp1) (.slice ao3 d.items.length cp3)) rfl rfl ?c1 ?c2 ?c3 ?c4 ?c5 ?_))
          case c1 =>
            refine cells_new_at _ _ _ _ ?_
            simp [World.setCell]
          case c2 => exact nd_one _ _ _ _ _ _ _
          case c3 => unfold maxLen; omega
          case c4 => omega
          case c5 => rw [World.size_alloc]; exact Nat.le_succ_of_le hk.out.size
          · intro x' w4 hown' hgrow _
            obtain ⟨q1, q2⟩ := snoc_nodes_end hk.out.nodes hk.out.r1 hk.out.r2 hk.out.all hk.out.size hown' hgrow
            clear hown' hgrow hk
            go_wp2
            go_roundw
            case rel => exact ⟨k + 1, _, by omega, by omega, by go_num, q1, by rw [List.map_append, HL.out, HE.out]; rfl, q2⟩
            case measure => simp [intOf]; omega
    · have e : k = 32 := by omega
      subst e
      go_wp2
      go_ret
      exact ⟨_, l, rfl, hrep, HL.out, hbr⟩

/-- A stretch of a list written anew. -/
def setSeg (l : List Value) : Nat → List Value → List Value
  | _, [] => l
  | o, x :: r => setSeg (l.set o x) (o + 1) r

theorem setSeg_mid (a b c x : List Value) (h : b.length = x.length) : setSeg (a ++ (b ++ c)) a.length x = a ++ (x ++ c) := by
  induction x generalizing a b with
  | nil =>
    have : b = [] := List.eq_nil_of_length_eq_zero (by simpa using h)
    subst this; rfl
  | cons y r ih =>
    cases b with
    | nil => simp at h
    | cons z b =>
      simp only [setSeg]
      have e : (a ++ (z :: b ++ c)).set a.length y = (a ++ [y]) ++ (b ++ c) := by
        rw [List.set_append_right _ _ (Nat.le_refl _)]; simp
      rw [e, show a.length + 1 = (a ++ [y]).length from by simp, ih (a ++ [y]) b (by simpa using h)]
      simp

theorem flat_split {α : Type} (f : α → List Value) (l : List α) (k : Nat) (hk : k < l.length) (x : α) : l.flatMap f = (l.take k).flatMap f ++ (f l[k] ++ (l.drop (k + 1)).flatMap f) ∧ (l.set k x).flatMap f = (l.take k).flatMap f ++ (f x ++ (l.drop (k + 1)).flatMap f) := by
  constructor
  · have e : l = l.take k ++ l[k] :: l.drop (k + 1) := by rw [← List.drop_eq_getElem_cons hk, List.take_append_drop]
    have e2 := congrArg (List.flatMap f) e
    rw [List.flatMap_append, List.flatMap_cons] at e2
    exact e2
  · rw [List.set_eq_take_append_cons_drop, if_pos hk]
    simp

theorem pTree_set (L : PLay) (v : Nat) (hv : v < L.nodes.length) (n : PN) : setSeg (pTree L) (8 + v * 21) (pnCells n) = pTree { L with nodes := L.nodes.set v n } := by
  obtain ⟨h1, h2⟩ := flat_split pnCells L.nodes v hv n
  simp only [pTree]
  rw [h1, h2]
  have e1 : pConf L.c ++ ((L.nodes.take v).flatMap pnCells ++ (pnCells L.nodes[v] ++ (L.nodes.drop (v + 1)).flatMap pnCells) ++ [L.pv]) = (pConf L.c ++ (L.nodes.take v).flatMap pnCells) ++ (pnCells L.nodes[v] ++ ((L.nodes.drop (v + 1)).flatMap pnCells ++ [L.pv])) := by simp
  have e2 : pConf L.c ++ ((L.nodes.take v).flatMap pnCells ++ (pnCells n ++ (L.nodes.drop (v + 1)).flatMap pnCells) ++ [L.pv]) = (pConf L.c ++ (L.nodes.take v).flatMap pnCells) ++ (pnCells n ++ ((L.nodes.drop (v + 1)).flatMap pnCells ++ [L.pv])) := by simp
  have e3 : 8 + v * 21 = (pConf L.c ++ (L.nodes.take v).flatMap pnCells).length := by
    rw [List.length_append, flat_length pnCells 21 pn_len, List.length_take]
    have : (pConf L.c).length = 8 := rfl
    rw [this, Nat.min_eq_left (by omega)]
  rw [e1, e2, e3]
  exact setSeg_mid _ _ _ _ rfl

theorem block_setCells {T : TypeId} (b : Nat) (xs : List Value) : ∀ (o : Nat) (w : World) (l : List Value), w.heap[b]? = some (.cells l.toArray T (0, 0)) → (w.setCells b o xs).heap[b]? = some (.cells (setSeg l o xs).toArray T (0, 0)) := by
  induction xs with
  | nil => intro o w l h; exact h
  | cons x r ih =>
    intro o w l h
    simp only [World.setCells, setSeg]
    refine ih (o + 1) _ _ ?_
    have := nb_set h o x
    simpa using this
theorem heap_setCells (b : Nat) (xs : List Value) : ∀ (o : Nat) (w : World) (k : Nat), k ≠ b → (w.setCells b o xs).heap[k]? = w.heap[k]? := by
  induction xs with
  | nil => intro o w k h; rfl
  | cons x r ih =>
    intro o w k h
    simp only [World.setCells]
    rw [ih (o + 1) _ k h, Below.heap_setCell _ _ _ _ h]
theorem below_setCells {B : Nat} {a : World} (b : Nat) (hb : B ≤ b) (xs : List Value) : ∀ (o : Nat) (w : World), Below B a w → Below B a (w.setCells b o xs) := by
  induction xs with
  | nil => intro o w h; exact h
  | cons x r ih => intro o w h; exact ih (o + 1) _ (h.setCell hb x)

theorem ownsRow_block_kept {w w' : World} {base : Nat} {e : TypeId} {size : Nat} {v : Value} {n : Nat} {xs : List Value} (h : w.ownsRow base e size v n xs) {b : Nat} {cs : Array Value} {T : TypeId} (hb : w.heap[b]? = some (.cells cs T (0, 0))) (hT : T ≠ e)
    (hk : ∀ k, k ≠ b → w'.heap[k]? = w.heap[k]?) : w'.ownsRow base e size v n xs := by
  obtain ⟨h1, h2⟩ := h
  refine ⟨h1, ?_⟩
  rcases h2 with h2 | ⟨g, cap, cur, hv, hg, hh, r⟩
  · exact Or.inl h2
  · refine Or.inr ⟨g, cap, cur, hv, hg, ?_, r⟩
    rw [hk g (by intro e; subst e; rw [hb] at hh; simp at hh; exact hT hh.2)]
    exact hh

/-- A node of the program's tree is written whole. -/
theorem PRep.setNode {w : World} {B : Nat} {L : PLay} (h : PRep w B L) (v : Nat) (hv : v < L.nodes.length) (n : PN) (hn : w.ownsRow B 148 2 n.iv n.items.length (n.items.flatMap fun y => [I y.1, I y.2])) (hnb : n.iv.ownBlock = none) :
    PRep (w.setCells L.tb (8 + v * 21) (pnCells n)) B { L with nodes := L.nodes.set v n } where
  tree := by rw [← pTree_set L v hv n]; exact block_setCells L.tb (pnCells n) _ _ _ h.tree
  treeB := h.treeB
  len := by simpa using h.len
  prow := ownsRow_block_kept h.prow h.tree (by decide) (fun k hk => heap_setCells _ _ _ _ k hk)
  items := fun u hu' => by
    have hu : u < L.nodes.length := by simpa using hu'
    by_cases e : u = v
    · subst e
      simp only [List.getElem_set_self]
      exact ownsRow_block_kept hn h.tree (by decide) (fun k hk => heap_setCells _ _ _ _ k hk)
    · simp only [List.getElem_set_ne (Ne.symm e)]
      exact ownsRow_block_kept (h.items u hu) h.tree (by decide) (fun k hk => heap_setCells _ _ _ _ k hk)
  ind := fun a b ha hb g e1 e2 => by
    have ha' : a < L.nodes.length := by simpa using ha
    have hb' : b < L.nodes.length := by simpa using hb
    by_cases ea : a = v
    · subst ea
      simp only [List.getElem_set_self] at e1
      rw [hnb] at e1
      exact absurd e1 (by simp)
    · by_cases eb : b = v
      · subst eb
        simp only [List.getElem_set_self] at e2
        rw [hnb] at e2
        exact absurd e2 (by simp)
      · simp only [List.getElem_set_ne (Ne.symm ea)] at e1
        simp only [List.getElem_set_ne (Ne.symm eb)] at e2
        exact h.ind a b ha' hb' g e1 e2

theorem PRep.there {w : World} {B : Nat} {L : PLay} (h : PRep w B L) (v : Nat) (hv : v < L.nodes.length) : w.there L.tb (8 + v * 21) 21 := by
  intro j hj
  refine ⟨?_, (nb_facts h.tree).2 _⟩
  rw [h.ncell v hv j hj]
  have : j < (pnCells L.nodes[v]).length := hj
  simp [List.getElem?_eq_getElem this]

def newPN (fl : Nat) (v : Nat) : PN := if v < fl then innerPN else if v < 2 * fl then leafPN else zeroPN

theorem Tryz.size57 : (Tryz.prog.info? 57).map (·.size) = some 21 := by kernel_rfl

/-- On the way: the nodes below k are laid out. -/
structure PMid (L : PLay) (fl k : Nat) (L' : PLay) : Prop where
  tb : L'.tb = L.tb
  c : L'.c = L.c
  pv : L'.pv = L.pv
  procs : L'.procs = L.procs
  nodes : ∀ v, 1 ≤ v → v < 32 → L'.nodes.getD v zeroPN = if v < k then newPN fl v else zeroPN

theorem PMid.step {L : PLay} {fl k : Nat} {L' : PLay} (h : PMid L fl k L') (hl : L'.nodes.length = 32) (hk : k < 32) (n : PN) (hn : n = newPN fl k) : PMid L fl (k + 1) { L' with nodes := L'.nodes.set k n } where
  tb := h.tb
  c := h.c
  pv := h.pv
  procs := h.procs
  nodes := fun v h1 h2 => by
    by_cases e : v = k
    · subst e
      simp [List.getD_eq_getElem?_getD, hl, hk, hn]
    · have := h.nodes v h1 h2
      simp only [List.getD_eq_getElem?_getD] at this
      simp only [List.getD_eq_getElem?_getD, List.getElem?_set_ne (Ne.symm e)]
      rw [this]
      by_cases h3 : v < k
      · rw [if_pos h3, if_pos (by omega)]
      · rw [if_neg h3, if_neg (by omega)]

theorem pn_size (n : PN) : (pnCells n).toArray.size = 21 := rfl
theorem pn_one (n : PN) (h : ∃ a l c, n.iv = .slice a l c) : (pnCells n).toArray.all (·.oneCell') = true := by
  obtain ⟨a, l, c, h⟩ := h
  refine all_oneCell_toArray fun u hu => ?_
  simp only [pnCells, List.mem_cons, List.not_mem_nil, or_false] at hu
  rcases hu with h' | h' | h' | h' | h' | h' | h' | h' | h' | h' | h' | h' | h' | h' | h' | h' | h' | h' | h' | h' | h' <;> subst h' <;> first | rfl | (rw [h]; rfl)

set_option maxHeartbeats 4000000 in
set_option maxRecDepth 100000 in
theorem plant_c {w : World} {B : Nat} {L : PLay} (h : PRep w B L) (s : Nat) (hs : L.c.start = s) (hs4 : s ≤ 4) (hz : L.nodes = List.replicate 32 zeroPN) :
    Calls Tryz.prog 15 #[.pointer (some ⟨L.tb, 0, none⟩)] w fun e w' => e = .returned (.tuple #[]) ∧ (∃ L', PRep w' B L' ∧ PMid L (2 ^ s) 32 L') ∧ Below B w w' := by
  have c2 : w.cell? ⟨L.tb, 2, none⟩ = some (I s) := by rw [h.ccell 2 (by omega), ← hs]; rfl
  have hf := firstOfDepth_c s (by omega) w
  obtain ⟨fl, hfl⟩ : ∃ fl : Nat, fl = 2 ^ s := ⟨_, rfl⟩
  have hfl16 : fl ≤ 16 := by rw [hfl]; exact Nat.le_trans (Nat.pow_le_pow_right (by omega) hs4) (by decide)
  have hfl1 : 1 ≤ fl := by rw [hfl]; exact Nat.two_pow_pos _
  rw [← hfl] at hf ⊢
  have hmid : PMid L fl 1 L := ⟨rfl, rfl, rfl, rfl, fun v h1 h2 => by rw [if_neg (by omega), hz, List.getD_eq_getElem?_getD, List.getElem?_replicate, if_pos h2]; rfl⟩
  have hsz := h.treeB
  clear hfl hs hs4 hz
  go_enter Tryz.func15, Tryz.ntmps15
  go_wp2_with fail
  refine hf.mono ?_
  rintro e w1 ⟨rfl, rfl⟩
  clear hf
  go_wp2_with fail
  go_loopw [3] (fun i wr => ∃ (k : Nat) (L' : PLay), 1 ≤ k ∧ k ≤ 2 * fl ∧ i = .int .i64 k ∧ PRep wr B L' ∧ PMid L fl k L' ∧ Below B w1 wr) (fun i _ => 32 - (intOf i).toNat)
  case atStart => exact ⟨1, L, by omega, by omega, rfl, h, hmid, Below.refl _ _⟩
  case round =>
    obtain ⟨k, L', hk1, hk, rfl, hrep, hm, hbr⟩ := hrel
    by_cases hlt : k < 2 * fl
    · have hlt32 : k < 32 := by omega
      have hkl : k < L'.nodes.length := by rw [hrep.len]; omega
      have HTH : Hid (∀ n : PN, wr.there L.tb (8 + k * 21) (pnCells n).toArray.size) := fun n => by have := hrep.there k hkl; rw [hm.tb] at this; rw [pn_size]; exact this
      have HSZ : Hid (∀ n : PN, (Tryz.prog.info? 57).map (·.size) = some (pnCells n).toArray.size) := fun n => by rw [pn_size]; exact Tryz.size57
      have hlt' : (k : Int) < 2 * fl := by omega
      by_cases hin : k < fl
      · have hnew : innerPN = newPN fl k := by simp [newPN, hin]
        have hrep2 := hrep.setNode k hkl innerPN (World.ownsRow_nil _ _ _ _) rfl
        have hm2 := hm.step hrep.len hlt32 innerPN hnew
        have hb2 := below_setCells L'.tb hrep.treeB (pnCells innerPN) (8 + k * 21) wr hbr
        rw [hm.tb] at hrep2 hb2 hm2
        replace hrep2 : Hid _ := hrep2
        replace hb2 : Hid _ := hb2
        clear hnew hrep hbr hm
        go_wp2_with (with_reducible refine wpList_store_mid rfl 57 (.tmp 28) (.tmp 25) rfl L.tb (8 + k * 21) (pnCells innerPN).toArray ?hx ?hy (HTH.out innerPN) (HSZ.out innerPN) (pn_one innerPN ⟨_, _, _, rfl⟩) ?_)
        case hx => rfl
        case hy => rfl
        go_wp2
        go_roundw
        case rel => exact ⟨k + 1, _, by omega, by omega, by go_num, hrep2, hm2, hb2⟩
        case measure => simp [intOf]; omega
      · have hnew : leafPN = newPN fl k := by simp [newPN, hin, hlt]
        have hrep2 := hrep.setNode k hkl leafPN (World.ownsRow_nil _ _ _ _) rfl
        have hm2 := hm.step hrep.len hlt32 leafPN hnew
        have hb2 := below_setCells L'.tb hrep.treeB (pnCells leafPN) (8 + k * 21) wr hbr
        rw [hm.tb] at hrep2 hb2 hm2
        replace hrep2 : Hid _ := hrep2
        replace hb2 : Hid _ := hb2
        clear hnew hrep hbr hm
        go_wp2_with (with_reducible refine wpList_store_mid rfl 57 (.tmp 34) (.tmp 31) rfl L.tb (8 + k * 21) (pnCells leafPN).toArray ?hx ?hy (HTH.out leafPN) (HSZ.out leafPN) (pn_one leafPN ⟨_, _, _, rfl⟩) ?_)
        case hx => rfl
        case hy => rfl
        go_wp2
        go_roundw
        case rel => exact ⟨k + 1, _, by omega, by omega, by go_num, hrep2, hm2, hb2⟩
        case measure => simp [intOf]; omega
    · have e : k = 2 * fl := by omega
      have hm32 : PMid L fl 32 L' := ⟨hm.tb, hm.c, hm.pv, hm.procs, fun v h1 h2 => by
        rw [hm.nodes v h1 h2, if_pos h2]
        by_cases h3 : v < k
        · rw [if_pos h3]
        · rw [if_neg h3]; simp [newPN, show ¬ v < fl from by omega, show ¬ v < 2 * fl from by omega]⟩
      have hd : decide ((k : Int) < 2 * fl) = false := by simp; omega
      go_wp2_with fail
      go_end0
      exact ⟨rfl, ⟨L', hrep, hm32⟩, hbr⟩

end Go.Proofs.YtjnmpejcegmkhaaGreatDoor
