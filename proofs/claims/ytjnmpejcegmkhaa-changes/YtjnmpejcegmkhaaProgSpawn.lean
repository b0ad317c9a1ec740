/- Contracts of the program's changes, newProcess, hasOp and live. No statement of the seat is proved here. -/
import Derived.Test.YtjnmpejcegmkhaaRefSpawn
import Derived.Test.YtjnmpejcegmkhaaProg6
import Derived.Test.YtjnmpejcegmkhaaProg1
namespace Go.Proofs.Ytjnmpejcegmkhaa
open Go.RowKit

set_option maxHeartbeats 1000000 in
theorem pchanges_c (o : Op3) (w : World) : Calls Try.prog 98 #[opV o] w fun e w' => e = .returned (.bool (isChange o)) ∧ Below w.heap.size w w' := by
  unfold opV
  have HI : Hid (isChange o = (decide (o.kind = 3) || decide (o.kind = 4))) := rfl
  generalize isChange o = b at *
  by_cases h3 : o.kind = 3
  · have b1 : (o.kind == 3) = true := by simp [h3]
    have hb : b = true := by rw [HI.out]; simp [h3]
    subst hb
    clear h3 HI
    go_enter Try.func98, Try.ntmps98
    go_wp2
    go_ret
    exact ⟨rfl, (Below.refl _ _).alloc (Nat.le_refl _) _⟩
  · have b1 : (o.kind == 3) = false := by simp [h3]
    by_cases h4 : o.kind = 4
    · have b2 : (o.kind == 4) = true := by simp [h4]
      have hb : b = true := by rw [HI.out]; simp [h4]
      subst hb
      clear h3 h4 HI
      go_enter Try.func98, Try.ntmps98
      go_wp2
      go_ret
      exact ⟨rfl, (Below.refl _ _).alloc (Nat.le_refl _) _⟩
    · have b2 : (o.kind == 4) = false := by simp [h4]
      have hb : b = false := by rw [HI.out]; simp [h3, h4]
      subst hb
      clear h3 h4 HI
      go_enter Try.func98, Try.ntmps98
      go_wp2
      go_ret
      exact ⟨rfl, (Below.refl _ _).alloc (Nat.le_refl _) _⟩

def newPP (o : Op3) : PP := ⟨o.kind, o.val, o.node, if isChange o ∧ o.node = 1 then 15 else 0, 1, 0, 0, 0, 0, 0, 0⟩

theorem hasOp_ways (c : Conf) (o : Op3) (h : okOp c o) : ((o.kind == 0) = true ∧ (c.kind == 0) = true) ∨ ((o.kind == 0) = false ∧ (o.kind == 1) = true ∧ (c.kind == 1) = true) ∨ ((o.kind == 0) = false ∧ (o.kind == 1) = false ∧ (o.kind == 2) = true ∧ (c.kind == 1) = true) ∨
    ((o.kind == 0) = false ∧ (o.kind == 1) = false ∧ (o.kind == 2) = false ∧ (o.kind == 3) = true ∧ 1 ≤ o.node ∧ o.node < ((2 ^ c.depth.toNat : Nat) : Int)) ∨
    ((o.kind == 0) = false ∧ (o.kind == 1) = false ∧ (o.kind == 2) = false ∧ (o.kind == 3) = false ∧ (o.kind == 4) = true ∧ 1 ≤ o.node ∧ o.node < ((2 ^ c.depth.toNat : Nat) : Int)) := by
  unfold okOp at h
  simp only [beq_iff_eq, beq_eq_false_iff_ne]
  omega

theorem hasNo_ways (c : Conf) (o : Op3) (h : ¬ okOp c o) : ((o.kind == 0) = true ∧ (c.kind == 0) = false) ∨ ((o.kind == 0) = false ∧ (o.kind == 1) = true ∧ (c.kind == 1) = false) ∨ ((o.kind == 0) = false ∧ (o.kind == 1) = false ∧ (o.kind == 2) = true ∧ (c.kind == 1) = false) ∨
    ((o.kind == 0) = false ∧ (o.kind == 1) = false ∧ (o.kind == 2) = false ∧ (o.kind == 3) = false ∧ (o.kind == 4) = false) ∨
    ((o.kind == 0) = false ∧ (o.kind == 1) = false ∧ (o.kind == 2) = false ∧ (o.kind == 3) = true ∧ decide (1 ≤ o.node) = false) ∨
    ((o.kind == 0) = false ∧ (o.kind == 1) = false ∧ (o.kind == 2) = false ∧ (o.kind == 3) = false ∧ (o.kind == 4) = true ∧ decide (1 ≤ o.node) = false) ∨
    ((o.kind == 0) = false ∧ (o.kind == 1) = false ∧ (o.kind == 2) = false ∧ (o.kind == 3) = true ∧ 1 ≤ o.node ∧ ((2 ^ c.depth.toNat : Nat) : Int) ≤ o.node) ∨
    ((o.kind == 0) = false ∧ (o.kind == 1) = false ∧ (o.kind == 2) = false ∧ (o.kind == 3) = false ∧ (o.kind == 4) = true ∧ 1 ≤ o.node ∧ ((2 ^ c.depth.toNat : Nat) : Int) ≤ o.node) := by
  unfold okOp at h
  simp only [beq_iff_eq, beq_eq_false_iff_ne, decide_eq_false_iff_not]
  omega

set_option maxHeartbeats 4000000 in
theorem hasOp_yes (c : Conf) (o : Op3) (h : okOp c o) (hd0 : 0 ≤ c.depth) (hd4 : c.depth ≤ 4) (w : World) : Calls Try.prog 71 #[confV c, opV o] w fun e w' => e = .returned (.bool true) ∧ Below w.heap.size w w' := by
  have hways := hasOp_ways c o h
  obtain ⟨d, hd⟩ := Int.eq_ofNat_of_zero_le hd0
  have hdn : c.depth.toNat = d := by omega
  rw [hdn] at hways
  have hf := fun W => firstOfDepth_c d (by omega) W
  generalize 2 ^ d = P2 at *
  unfold confV opV
  replace hf : Hid _ := hf
  rw [hd]
  clear h hd0 hd4 hdn hd
  rcases hways with ⟨b0, k0⟩ | ⟨b0, b1, k1⟩ | ⟨b0, b1, b2, k1⟩ | ⟨b0, b1, b2, b3, n1, n2⟩ | ⟨b0, b1, b2, b3, b4, n1, n2⟩
  · go_enter Try.func71, Try.ntmps71
    go_wp2
    go_ret
    exact ⟨rfl, ((Below.refl _ _).alloc (Nat.le_refl _) _).alloc (by simp) _⟩
  · go_enter Try.func71, Try.ntmps71
    go_wp2
    go_ret
    exact ⟨rfl, ((Below.refl _ _).alloc (Nat.le_refl _) _).alloc (by simp) _⟩
  · go_enter Try.func71, Try.ntmps71
    go_wp2
    go_ret
    exact ⟨rfl, ((Below.refl _ _).alloc (Nat.le_refl _) _).alloc (by simp) _⟩
  · go_enter Try.func71, Try.ntmps71
    go_wp2_with fail
    go_quiet ((go_at_call 97; exact Calls.quiet_of_same (hf.out _)))
    go_wp2
    go_ret
    exact ⟨rfl, Below.drewN' (((Below.refl _ _).alloc (Nat.le_refl _) _).alloc (by simp) _) _⟩
  · go_enter Try.func71, Try.ntmps71
    go_wp2_with fail
    go_quiet ((go_at_call 97; exact Calls.quiet_of_same (hf.out _)))
    go_wp2
    go_ret
    exact ⟨rfl, Below.drewN' (((Below.refl _ _).alloc (Nat.le_refl _) _).alloc (by simp) _) _⟩

set_option maxHeartbeats 4000000 in
theorem hasOp_no (c : Conf) (o : Op3) (h : ¬ okOp c o) (hd0 : 0 ≤ c.depth) (hd4 : c.depth ≤ 4) (w : World) : Calls Try.prog 71 #[confV c, opV o] w fun e w' => e = .returned (.bool false) ∧ Below w.heap.size w w' := by
  have hways := hasNo_ways c o h
  obtain ⟨d, hd⟩ := Int.eq_ofNat_of_zero_le hd0
  have hdn : c.depth.toNat = d := by omega
  rw [hdn] at hways
  have hf := fun W => firstOfDepth_c d (by omega) W
  generalize 2 ^ d = P2 at *
  unfold confV opV
  replace hf : Hid _ := hf
  rw [hd]
  clear h hd0 hd4 hdn hd
  rcases hways with ⟨b0, k0⟩ | ⟨b0, b1, k1⟩ | ⟨b0, b1, b2, k1⟩ | ⟨b0, b1, b2, b3, b4⟩ | ⟨b0, b1, b2, b3, n1⟩ | ⟨b0, b1, b2, b3, b4, n1⟩ | ⟨b0, b1, b2, b3, n1, n2⟩ | ⟨b0, b1, b2, b3, b4, n1, n2⟩
  · go_enter Try.func71, Try.ntmps71
    go_wp2
    go_ret
    exact ⟨rfl, ((Below.refl _ _).alloc (Nat.le_refl _) _).alloc (by simp) _⟩
  · go_enter Try.func71, Try.ntmps71
    go_wp2
    go_ret
    exact ⟨rfl, ((Below.refl _ _).alloc (Nat.le_refl _) _).alloc (by simp) _⟩
  · go_enter Try.func71, Try.ntmps71
    go_wp2
    go_ret
    exact ⟨rfl, ((Below.refl _ _).alloc (Nat.le_refl _) _).alloc (by simp) _⟩
  · go_enter Try.func71, Try.ntmps71
    go_wp2
    go_ret
    exact ⟨rfl, ((Below.refl _ _).alloc (Nat.le_refl _) _).alloc (by simp) _⟩
  · go_enter Try.func71, Try.ntmps71
    go_wp2_with fail
    go_quiet ((go_at_call 97; exact Calls.quiet_of_same (hf.out _)))
    go_wp2
    go_ret
    exact ⟨rfl, Below.drewN' (((Below.refl _ _).alloc (Nat.le_refl _) _).alloc (by simp) _) _⟩
  · go_enter Try.func71, Try.ntmps71
    go_wp2_with fail
    go_quiet ((go_at_call 97; exact Calls.quiet_of_same (hf.out _)))
    go_wp2
    go_ret
    exact ⟨rfl, Below.drewN' (((Below.refl _ _).alloc (Nat.le_refl _) _).alloc (by simp) _) _⟩
  · have n2' : decide (o.node < (P2 : Int)) = false := by simp; omega
    go_enter Try.func71, Try.ntmps71
    go_wp2_with fail
    go_quiet ((go_at_call 97; exact Calls.quiet_of_same (hf.out _)))
    go_wp2
    go_ret
    exact ⟨rfl, Below.drewN' (((Below.refl _ _).alloc (Nat.le_refl _) _).alloc (by simp) _) _⟩
  · have n2' : decide (o.node < (P2 : Int)) = false := by simp; omega
    go_enter Try.func71, Try.ntmps71
    go_wp2_with fail
    go_quiet ((go_at_call 97; exact Calls.quiet_of_same (hf.out _)))
    go_wp2
    go_ret
    exact ⟨rfl, Below.drewN' (((Below.refl _ _).alloc (Nat.le_refl _) _).alloc (by simp) _) _⟩

def pliveL : List PP → Nat
  | [] => 0
  | p :: r => (if p.phase = 20 then 0 else 1) + pliveL r
theorem pliveL_append (a b : List PP) : pliveL (a ++ b) = pliveL a + pliveL b := by
  induction a with
  | nil => simp [pliveL]
  | cons x a ih => simp [pliveL, ih]; omega
theorem pliveL_le (a : List PP) : pliveL a ≤ a.length := by
  induction a with
  | nil => simp [pliveL]
  | cons x a ih => simp only [pliveL, List.length_cons]; split <;> omega

theorem PRep.pp_at {w : World} {B : Nat} {L : PLay} (h : PRep w B L) : ∃ ao cap, L.pv = .slice ao L.procs.length cap ∧ L.procs.length ≤ cap ∧ L.procs.length ≤ maxLen ∧ cap ≤ maxLen ∧
    ∀ i, (hi : i < L.procs.length) → ∃ g, ao = some ⟨g, 0, none⟩ ∧ ∀ j, j < 11 → w.cell? ⟨g, i * 11 + j, none⟩ = (ppCells L.procs[i])[j]? := by
  obtain ⟨ao, cap, e1, c1, c2, c3, h2⟩ := ownsRow_cells h.prow
  refine ⟨ao, cap, e1, c1, c2, c3, fun i hi => ?_⟩
  have key : ∀ j, j < 11 → ∃ g, ao = some ⟨g, 0, none⟩ ∧ w.cell? ⟨g, i * 11 + j, none⟩ = (ppCells L.procs[i])[j]? := by
    intro j hj
    have hlt : j < (ppCells L.procs[i]).length := hj
    obtain ⟨g, e, _, c⟩ := h2 (i * 11 + j) ((ppCells L.procs[i])[j]) (by rw [flat_at ppCells 11 pp_len L.procs i hi j hj, List.getElem?_eq_getElem hlt])
    exact ⟨g, e, by rw [c, List.getElem?_eq_getElem hlt]⟩
  obtain ⟨g, rfl, _⟩ := key 0 (by omega)
  refine ⟨g, rfl, fun j hj => ?_⟩
  obtain ⟨g', e, c⟩ := key j hj
  simp at e; subst e; exact c

set_option maxHeartbeats 2000000 in
theorem plive_c {w : World} {B : Nat} {L : PLay} (h : PRep w B L) :
    Calls Try.prog 72 #[.pointer (some ⟨L.tb, 0, none⟩)] w fun e w' => e = .returned (I (pliveL L.procs)) ∧ w' = w := by
  have h1 := h.pcell
  obtain ⟨ao, cap, e1, c1, c2, c3, h2⟩ := h.pp_at
  rw [e1] at h1
  clear e1
  have hp : ∀ i, (hi : i < L.procs.length) → ∃ g, ao = some ⟨g, 0, none⟩ ∧ w.cell? ⟨g, i * 11 + 3, none⟩ = some (I (L.procs[i]).phase) := fun i hi => by
    obtain ⟨g, e, f⟩ := h2 i hi
    exact ⟨g, e, f 3 (by omega)⟩
  clear h2
  generalize hps : L.procs = ps at *
  generalize L.tb = tb at *
  unfold maxLen at c2 c3
  clear h
  go_enter Try.func72, Try.ntmps72
  go_wp2
  go_loop [3, 4] (fun n i => ∃ k : Nat, k ≤ ps.length ∧ n = .int .i64 (pliveL (ps.take k)) ∧ i = .int .i64 k) (fun _ i => ps.length - (intOf i).toNat)
  case atStart => exact ⟨0, Nat.zero_le _, rfl, rfl⟩
  case round =>
    obtain ⟨k, hk, rfl, rfl⟩ := hrel
    have hle := pliveL_le (ps.take k)
    have hle2 : (ps.take k).length ≤ k := List.length_take_le _ _
    by_cases hlt : k < ps.length
    · obtain ⟨g, rfl, hc⟩ := hp k hlt
      have hts := take_succ_get ps k hlt
      have HT : Hid (pliveL (ps.take (k + 1)) = pliveL (ps.take k) + if (ps[k]).phase = 20 then 0 else 1) := by show _ = _; rw [hts, pliveL_append]; simp [pliveL]
      clear hts hp
      generalize hpk : ps[k] = p at *
      clear hpk
      by_cases hh : p.phase = 20
      · have b1 : (p.phase != 20) = false := by simp [hh]
        have HC : Hid (pliveL (ps.take (k + 1)) = pliveL (ps.take k)) := by show _ = _; rw [HT.out, if_pos hh]; rfl
        clear HT hh
        go_wp2
        go_round
        case rel => exact ⟨k + 1, by omega, int_of (by rw [HC.out]), by go_num⟩
        case measure => simp [intOf]; omega
      · have b1 : (p.phase != 20) = true := by simp [hh]
        have HC : Hid (pliveL (ps.take (k + 1)) = pliveL (ps.take k) + 1) := by show _ = _; rw [HT.out, if_neg hh]
        clear HT hh
        go_wp2
        go_round
        case rel => exact ⟨k + 1, by omega, int_of (by rw [HC.out]; omega), by go_num⟩
        case measure => simp [intOf]; omega
    · have HC : Hid (pliveL ps = pliveL (ps.take k)) := by show _ = _; rw [List.take_of_length_le (by omega)]
      go_wp2
      go_ret
      exact ⟨by rw [HC.out]; rfl, rfl⟩

end Go.Proofs.Ytjnmpejcegmkhaa
