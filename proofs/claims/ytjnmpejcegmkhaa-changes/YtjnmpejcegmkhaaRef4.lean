/- Contracts of package prismref's functions that only read, fourth part: those over the processes. No statement of the seat is proved here. -/
import Derived.Test.YtjnmpejcegmkhaaRef2
namespace Go.Proofs.Ytjnmpejcegmkhaa
open Go.RowKit

/-- The cells of a process. -/
theorem RefRep.pcell {w : World} {B : Nat} {L : Lay} (h : RefRep w B L) {i : Nat} (hi : i < L.procs.length) (j : Nat) : w.cell? ⟨(L.procs[i]).1, j, none⟩ = (prCells (L.procs[i]).2)[j]? := block_cell (h.pblk i hi).1 j

def shutP (v : Int) (p : Pr) : Bool := decide (p.node = v) && (decide (p.phase = 16) || decide (p.phase = 17) || decide (p.phase = 18))
def shutL (v : Int) : List (Nat × Pr) → Bool
  | [] => false
  | p :: r => shutP v p.2 || shutL v r

theorem shutL_append (v : Int) (a b : List (Nat × Pr)) : shutL v (a ++ b) = (shutL v a || shutL v b) := by
  induction a with
  | nil => simp [shutL]
  | cons x a ih => simp [shutL, ih, Bool.or_assoc]

theorem take_succ_get {α : Type} (l : List α) (k : Nat) (h : k < l.length) : l.take (k + 1) = l.take k ++ [l[k]] := by
  rw [List.take_succ_eq_append_getElem h]

set_option maxHeartbeats 2000000 in
theorem shut_c {w : World} {B : Nat} {L : Lay} (h : RefRep w B L) (v : Int) :
    Calls Try.prog 105 #[.pointer (some ⟨L.tb, 0, none⟩), I v] w fun e w' => e = .returned (.bool (shutL v L.procs)) ∧ w' = w := by
  have h1 := h.pv_cell
  obtain ⟨ao, cap, e1, c1, c2, c3, h2⟩ := h.proc_at
  rw [e1] at h1
  clear e1
  have hp : ∀ i, (hi : i < L.procs.length) → w.cell? ⟨(L.procs[i]).1, 3, none⟩ = some (I (L.procs[i]).2.phase) ∧ w.cell? ⟨(L.procs[i]).1, 4, none⟩ = some (I (L.procs[i]).2.node) := fun i hi => ⟨by rw [h.pcell hi]; rfl, by rw [h.pcell hi]; rfl⟩
  generalize hps : L.procs = ps at *
  generalize L.tb = tb at *
  unfold maxLen at c2 c3
  clear h
  go_enter Try.func105, Try.ntmps105
  go_wp2
  go_loop [5] (fun i => ∃ k : Nat, k ≤ ps.length ∧ shutL v (ps.take k) = false ∧ i = .int .i64 k) (fun i => ps.length - (intOf i).toNat)
  case atStart => exact ⟨0, Nat.zero_le _, rfl, rfl⟩
  case round =>
    obtain ⟨k, hk, hs, rfl⟩ := hrel
    by_cases hlt : k < ps.length
    · obtain ⟨g, rfl, g0⟩ := h2 k hlt
      obtain ⟨p3, p4⟩ := hp k hlt
      have hts := take_succ_get ps k hlt
      have HT : Hid (shutL v (ps.take (k + 1)) = shutP v (ps[k]).2) := by show _ = _; rw [hts, shutL_append, hs]; simp [shutL]
      have HA : Hid (shutP v (ps[k]).2 = true → shutL v ps = true) := by
        intro hh
        have : shutL v ps = (shutL v (ps.take (k + 1)) || shutL v (ps.drop (k + 1))) := by rw [← shutL_append, List.take_append_drop]
        rw [this, HT.out, hh]; rfl
      clear hts hs h2 hp
      generalize hpk : ps[k] = p at *
      clear hpk
      by_cases hn : p.2.node = v
      · have b1 : (p.2.node == v) = true := by simp [hn]
        by_cases h16 : p.2.phase = 16
        · have b2 : (p.2.phase == 16) = true := by simp [h16]
          have HC : Hid (shutL v ps = true) := HA.out (by simp [shutP, hn, h16])
          clear HA HT hn h16
          go_wp2
          go_ret
          exact ⟨by rw [HC.out]; rfl, rfl⟩
        · have b2 : (p.2.phase == 16) = false := by simp [h16]
          by_cases h17 : p.2.phase = 17
          · have b3 : (p.2.phase == 17) = true := by simp [h17]
            have HC : Hid (shutL v ps = true) := HA.out (by simp [shutP, hn, h17])
            clear HA HT hn h16 h17
            go_wp2
            go_ret
            exact ⟨by rw [HC.out]; rfl, rfl⟩
          · have b3 : (p.2.phase == 17) = false := by simp [h17]
            by_cases h18 : p.2.phase = 18
            · have b4 : (p.2.phase == 18) = true := by simp [h18]
              have HC : Hid (shutL v ps = true) := HA.out (by simp [shutP, hn, h18])
              clear HA HT hn h16 h17 h18
              go_wp2
              go_ret
              exact ⟨by rw [HC.out]; rfl, rfl⟩
            · have b4 : (p.2.phase == 18) = false := by simp [h18]
              have HC : Hid (shutL v (ps.take (k + 1)) = false) := by show _ = _; rw [HT.out]; simp [shutP, h16, h17, h18]
              clear HA HT hn h16 h17 h18
              go_wp2
              go_round
              case rel => exact ⟨k + 1, by omega, HC.out, by go_num⟩
              case measure => simp [intOf]; omega
      · have b1 : (p.2.node == v) = false := by simp [hn]
        have HC : Hid (shutL v (ps.take (k + 1)) = false) := by show _ = _; rw [HT.out]; simp [shutP, hn]
        clear HA HT hn
        go_wp2
        go_round
        case rel => exact ⟨k + 1, by omega, HC.out, by go_num⟩
        case measure => simp [intOf]; omega
    · have HC : Hid (shutL v ps = false) := by show _ = _; rw [← hs, List.take_of_length_le (by omega)]
      clear hs
      go_wp2
      go_ret
      exact ⟨by rw [HC.out]; rfl, rfl⟩

/-- From node a up, as long as it is greater than v. -/
def climb : Nat → Nat → Nat → Nat
  | 0, a, _ => a
  | f + 1, a, v => if v < a then climb f (a / 2) v else a
def atP (p : Pr) : Nat := if p.phase = 0 ∨ p.phase = 15 ∨ p.phase = 16 ∨ p.phase = 17 ∨ p.phase = 18 then p.node.toNat / 2 else p.node.toNat
def holdsP (v : Nat) (p : Pr) : Bool := !decide (p.phase = 20) && decide (climb 6 (atP p) v = v)

theorem climb_stop (f a v : Nat) (h : ¬ v < a) : climb f a v = a := by cases f <;> simp [climb, h]

theorem ret_bool {a b : Bool} (h : a = b) : Ending.returned (.bool a) = .returned (.bool b) := by rw [h]
theorem ret_i {a b : Int} (h : a = b) : Ending.returned (I a) = .returned (I b) := by rw [h]
theorem int_of {a b : Int} (h : a = b) : Value.int .i64 a = .int .i64 b := by rw [h]
theorem beq_nat (a b : Nat) : ((a : Int) == (b : Int)) = decide (a = b) := by rw [Bool.eq_iff_iff]; simp; omega

set_option maxHeartbeats 2000000 in
theorem holds_loop (v : Nat) (a0 : Nat) (ha : a0 < 64) (p : Pr) (b : Nat) (w : World) (h3 : w.cell? ⟨b, 3, none⟩ = some (I p.phase)) (h4 : w.cell? ⟨b, 4, none⟩ = some (I p.node))
    (hn : p.node = ((p.node.toNat : Nat) : Int)) (hlt : p.node.toNat < 64) (hph : (p.phase == 20) = false) (hat : atP p = a0) :
    Calls Try.prog 140 #[.pointer (some ⟨b, 0, none⟩), I v] w fun e w' => e = .returned (.bool (decide (climb 6 a0 v = v))) ∧ w' = w := by
  generalize hnn : p.node.toNat = nn at *
  rw [hn] at h4
  have HE : Hid (atP p = if p.phase = 0 ∨ p.phase = 15 ∨ p.phase = 16 ∨ p.phase = 17 ∨ p.phase = 18 then nn / 2 else nn) := by show _ = _; rw [atP, hnn]
  have HA : Hid (atP p = a0) := hat
  clear hat hn hnn
  generalize p.phase = ph at *
  have hcases : (ph == 0) = true ∨ (ph == 15) = true ∨ (ph == 16) = true ∨ (ph == 17) = true ∨ (ph == 18) = true ∨ ((ph == 0) = false ∧ (ph == 15) = false ∧ (ph == 16) = false ∧ (ph == 17) = false ∧ (ph == 18) = false) := by
    simp; omega
  have hstart : ((ph = 0 ∨ ph = 15 ∨ ph = 16 ∨ ph = 17 ∨ ph = 18) ∧ a0 = nn / 2) ∨ ((ph == 0) = false ∧ (ph == 15) = false ∧ (ph == 16) = false ∧ (ph == 17) = false ∧ (ph == 18) = false) ∧ a0 = nn := by
    by_cases hh : ph = 0 ∨ ph = 15 ∨ ph = 16 ∨ ph = 17 ∨ ph = 18
    · exact Or.inl ⟨hh, by rw [← HA.out, HE.out, if_pos hh]⟩
    · exact Or.inr ⟨by simp; omega, by rw [← HA.out, HE.out, if_neg hh]⟩
  clear HA HE hcases
  rcases hstart with ⟨rfl | rfl | rfl | rfl | rfl, hE⟩ | ⟨⟨t0, t1, t2, t3, t4⟩, hE⟩
  all_goals
    have HX := hE
    replace HX : Hid (a0 = _) := HX
    clear hE
    go_enter Try.func140, Try.ntmps140
    go_wp2
    go_loop [5] (fun i => ∃ f aa : Nat, aa < 2 ^ f ∧ aa < 64 ∧ Hid (climb f aa v = climb 6 a0 v) ∧ i = .int .i64 aa) (fun i => (intOf i).toNat)
    case atStart => exact ⟨6, a0, ha, ha, rfl, int_of (by have := HX.out; omega)⟩
    case round =>
      obtain ⟨f, aa, hf, h64, hc, rfl⟩ := hrel
      by_cases hgt : v < aa
      · cases f with
        | zero => exfalso; simp at hf; omega
        | succ f =>
          have HC : Hid (climb f (aa / 2) v = climb 6 a0 v) := by have := hc.out; simp only [climb, hgt, if_true] at this; exact this
          clear hc
          have hf2 : aa / 2 < 2 ^ f := by rw [Nat.pow_succ] at hf; omega
          go_wp2
          go_round
          case rel => exact ⟨f, aa / 2, hf2, by omega, HC, by go_num⟩
          case measure => simp [intOf]; omega
      · have HC : Hid (climb 6 a0 v = aa) := by have := hc.out; rw [climb_stop _ _ _ hgt] at this; exact this.symm
        clear hc
        go_wp2
        go_ret
        exact ⟨ret_bool (by rw [HC.out]; exact beq_nat _ _), rfl⟩

set_option maxHeartbeats 2000000 in
theorem holds_done (v : Nat) (p : Pr) (b : Nat) (w : World) (h3 : w.cell? ⟨b, 3, none⟩ = some (I p.phase)) (hph : p.phase = 20) :
    Calls Try.prog 140 #[.pointer (some ⟨b, 0, none⟩), I v] w fun e w' => e = .returned (.bool false) ∧ w' = w := by
  rw [hph] at h3
  clear hph
  go_enter Try.func140, Try.ntmps140
  go_wp2
  go_ret
  exact ⟨rfl, rfl⟩

def NodeOk (p : Pr) : Prop := p.node = ((p.node.toNat : Nat) : Int) ∧ p.node.toNat < 64

theorem holds_c (v : Nat) (p : Pr) (b : Nat) (w : World) (h3 : w.cell? ⟨b, 3, none⟩ = some (I p.phase)) (h4 : w.cell? ⟨b, 4, none⟩ = some (I p.node)) (hp : NodeOk p) :
    Calls Try.prog 140 #[.pointer (some ⟨b, 0, none⟩), I v] w fun e w' => e = .returned (.bool (holdsP v p)) ∧ w' = w := by
  by_cases h : p.phase = 20
  · have : holdsP v p = false := by simp [holdsP, h]
    rw [this]; exact holds_done v p b w h3 h
  · have : holdsP v p = decide (climb 6 (atP p) v = v) := by simp [holdsP, h]
    rw [this]
    exact holds_loop v (atP p) (by have := hp.2; unfold atP; split <;> omega) p b w h3 h4 hp.1 hp.2 (by simp [h]) rfl

def insideL (v : Nat) : List (Nat × Pr) → Nat
  | [] => 0
  | p :: r => (if holdsP v p.2 then 1 else 0) + insideL v r

theorem insideL_append (v : Nat) (a b : List (Nat × Pr)) : insideL v (a ++ b) = insideL v a + insideL v b := by
  induction a with
  | nil => simp [insideL]
  | cons x a ih => simp [insideL, ih]; omega
theorem insideL_le (v : Nat) (a : List (Nat × Pr)) : insideL v a ≤ a.length := by
  induction a with
  | nil => simp [insideL]
  | cons x a ih => simp only [insideL, List.length_cons]; split <;> omega

set_option maxHeartbeats 2000000 in
theorem inside_c {w : World} {B : Nat} {L : Lay} (h : RefRep w B L) (hok : ∀ i, (hi : i < L.procs.length) → NodeOk (L.procs[i]).2) (v : Nat) :
    Calls Try.prog 115 #[.pointer (some ⟨L.tb, 0, none⟩), I v] w fun e w' => e = .returned (I (insideL v L.procs)) ∧ w' = w := by
  have h1 := h.pv_cell
  obtain ⟨ao, cap, e1, c1, c2, c3, h2⟩ := h.proc_at
  rw [e1] at h1
  clear e1
  have hp : ∀ i, (hi : i < L.procs.length) → Calls Try.prog 140 #[.pointer (some ⟨(L.procs[i]).1, 0, none⟩), I v] w fun e w' => e = .returned (.bool (holdsP v (L.procs[i]).2)) ∧ w' = w := fun i hi =>
    holds_c v _ _ w (by rw [h.pcell hi]; rfl) (by rw [h.pcell hi]; rfl) (hok i hi)
  generalize hps : L.procs = ps at *
  generalize L.tb = tb at *
  unfold maxLen at c2 c3
  clear h hok
  have HP := hp
  replace HP : Hid (∀ i, (hi : i < ps.length) → Calls Try.prog 140 #[.pointer (some ⟨(ps[i]).1, 0, none⟩), I v] w fun e w' => e = .returned (.bool (holdsP v (ps[i]).2)) ∧ w' = w) := HP
  clear hp
  go_enter Try.func115, Try.ntmps115
  go_wp2
  go_loop [5, 6] (fun n i => ∃ k : Nat, k ≤ ps.length ∧ n = .int .i64 (insideL v (ps.take k)) ∧ i = .int .i64 k) (fun _ i => ps.length - (intOf i).toNat)
  case atStart => exact ⟨0, Nat.zero_le _, rfl, rfl⟩
  case round =>
    obtain ⟨k, hk, rfl, rfl⟩ := hrel
    have hle := insideL_le v (ps.take k)
    have hle2 : (ps.take k).length ≤ k := List.length_take_le _ _
    by_cases hlt : k < ps.length
    · obtain ⟨g, rfl, g0⟩ := h2 k hlt
      have hc := HP.out k hlt
      have hts := take_succ_get ps k hlt
      have HT : Hid (insideL v (ps.take (k + 1)) = insideL v (ps.take k) + if holdsP v (ps[k]).2 then 1 else 0) := by show _ = _; rw [hts, insideL_append]; simp [insideL]
      clear hts h2 HP
      generalize hpk : ps[k] = p at *
      clear hpk
      cases hh : holdsP v p.2 with
      | true =>
        rw [hh] at hc
        have HC : Hid (insideL v (ps.take (k + 1)) = insideL v (ps.take k) + 1) := by show _ = _; rw [HT.out, hh]; simp
        clear HT hh
        go_wp2_with fail
        refine hc.mono ?_
        rintro x w1 ⟨rfl, rfl⟩
        go_wp2
        go_round
        case rel => exact ⟨k + 1, by omega, int_of (by rw [HC.out]; omega), by go_num⟩
        case measure => simp [intOf]; omega
      | false =>
        rw [hh] at hc
        have HC : Hid (insideL v (ps.take (k + 1)) = insideL v (ps.take k)) := by show _ = _; rw [HT.out, hh]; simp
        clear HT hh
        go_wp2_with fail
        refine hc.mono ?_
        rintro x w1 ⟨rfl, rfl⟩
        go_wp2
        go_round
        case rel => exact ⟨k + 1, by omega, int_of (by rw [HC.out]), by go_num⟩
        case measure => simp [intOf]; omega
    · have HC : Hid (insideL v ps = insideL v (ps.take k)) := by show _ = _; rw [List.take_of_length_le (by omega)]
      go_wp2
      go_ret
      exact ⟨by rw [HC.out]; rfl, rfl⟩

end Go.Proofs.Ytjnmpejcegmkhaa
