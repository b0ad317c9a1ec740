/- Contracts of the program's changes, newProcess, hasOp and live. Contracts of the program's newProcess and Spawn. The contract of the program's Spawn. No statement of the seat is proved here. What a hand of package prismkeep is in memory; contracts of at and live. No statement of the seat is proved here. The contract of package prismkeep's find. No statement of the seat is proved here. Contracts of package prismkeep's deep, order and shaped. No statement of the seat is proved here. The contract of package prismkeep's shaped. No statement of the seat is proved here. Contracts of package prismref's small functions that write a process: child, up, ends, settled; remainder. Contracts of package prismref's meeting, phase by phase: Wide, Slot, Claim, Wait. Contracts of package prismref's meeting, phase by phase: Slot, Taken, Grow, Shrink. Contracts of package prismref's meeting, phase by phase: Taken, Grow, Shrink. Contracts of package prismref's meeting: the phase Meet. Contracts of package prismref's meeting: the phase Meet, where the kept one is met. Contracts of package prismref's look, of an Inc, a Put or a Get. Contracts of package prismref's leaf: the phase Ticket. Contracts of package prismref's leaf: the phases Store and Fetch. Contracts of package prismref's Step: its errors, and by phase. No statement of the seat is proved here. -/
import Derived.Test.YtjnmpejcegmkhabRefB
import Derived.Test.YtjnmpejcegmkhabProgA
import Derived.Deep.RegionWith
import Derived.Deep.RegionLaw
import Derived.Deep.AppendLies
import Derived.Deep.QuietTactic
import Derived.BigQuiet
import Derived.Deep.DeepCutAuto
namespace Go.Proofs.Ytjnmpejcegmkhab
open Go.RowKit
variable {Fr : Nat → Prop}

set_option maxHeartbeats 1000000 in
theorem pchanges_c (o : Op3) (w : World) : Calls Try.prog 69 #[opV o] w fun e w' => e = .returned (.bool (isChange o)) ∧ Below w.heap.size w w' := by
  unfold opV
  have HI : Hid (isChange o = (decide (o.kind = 3) || decide (o.kind = 4))) := rfl
  generalize isChange o = b at *
  by_cases h3 : o.kind = 3
  · have b1 : (o.kind == 3) = true := by simp [h3]
    have hb : b = true := by rw [HI.out]; simp [h3]
    subst hb
    clear h3 HI
    go_enter Try.func69, Try.ntmps69
    go_wp2
    go_ret
    exact ⟨rfl, (Below.refl _ _).alloc (Nat.le_refl _) _⟩
  · have b1 : (o.kind == 3) = false := by simp [h3]
    by_cases h4 : o.kind = 4
    · have b2 : (o.kind == 4) = true := by simp [h4]
      have hb : b = true := by rw [HI.out]; simp [h4]
      subst hb
      clear h3 h4 HI
      go_enter Try.func69, Try.ntmps69
      go_wp2
      go_ret
      exact ⟨rfl, (Below.refl _ _).alloc (Nat.le_refl _) _⟩
    · have b2 : (o.kind == 4) = false := by simp [h4]
      have hb : b = false := by rw [HI.out]; simp [h3, h4]
      subst hb
      clear h3 h4 HI
      go_enter Try.func69, Try.ntmps69
      go_wp2
      go_ret
      exact ⟨rfl, (Below.refl _ _).alloc (Nat.le_refl _) _⟩

def newPP (o : Op3) : PP := ⟨o.kind, o.val, o.node, if isChange o ∧ o.node = 1 then 15 else 0, 1, 0, 0, 0, 0, 0, 0⟩

theorem hasOp_ways (c : Conf) (o : Op3) (h : okOp c o) : ((o.kind == 0) = true ∧ (c.kind == 0) = true) ∨ ((o.kind == 0) = false ∧ (o.kind == 1) = true ∧ (c.kind == 1) = true) ∨ ((o.kind == 0) = false ∧ (o.kind == 1) = false ∧ (o.kind == 2) = true ∧ (c.kind == 1) = true) ∨
    ((o.kind == 0) = false ∧ (o.kind == 1) = false ∧ (o.kind == 2) = false ∧ (o.kind == 3) = true ∧ 1 ≤ o.node ∧ o.node < ((2 ^ c.depth.toNat : Nat) : Int)) ∨
    ((o.kind == 0) = false ∧ (o.kind == 1) = false ∧ (o.kind == 2) = false ∧ (o.kind == 3) = false ∧ (o.kind == 4) = true ∧ 1 ≤ o.node ∧ o.node < ((2 ^ c.depth.toNat : Nat) : Int)) := by
  unfold okOp at h
  simp only [beq_iff_eq, beq_eq_false_iff_ne]
  omega

theorem hasNo_ways (c : Conf) (o : Op3) (h : ¬ okOp c o) : ((o.kind == 0) = true ∧ (c.kind == 0) = false) ∨ ((o.kind == 0) = false ∧ (o.kind == 1) = true ∧ (c.kind == 1) = false) ∨ ((o.kind == 0) = false ∧ (o.kind == 1) = false ∧ (o.kind == 2) = true ∧ (c.kind == 1) = false) ∨
    ((o.kind == 0) = false ∧ (o.kind == 1) = false ∧ (o.kind == 2) = false ∧ (o.kind == 3) = false ∧ (o.kind == 4) = false) ∨
    ((o.kind == 0) = false ∧ (o.kind == 1) = false ∧ (o.kind == 2) = false ∧ (o.kind == 3) = true ∧ decide (1 ≤ o.node) = false) ∨
    ((o.kind == 0) = false ∧ (o.kind == 1) = false ∧ (o.kind == 2) = false ∧ (o.kind == 3) = false ∧ (o.kind == 4) = true ∧ decide (1 ≤ o.node) = false) ∨
    ((o.kind == 0) = false ∧ (o.kind == 1) = false ∧ (o.kind == 2) = false ∧ (o.kind == 3) = true ∧ 1 ≤ o.node ∧ ((2 ^ c.depth.toNat : Nat) : Int) ≤ o.node) ∨
    ((o.kind == 0) = false ∧ (o.kind == 1) = false ∧ (o.kind == 2) = false ∧ (o.kind == 3) = false ∧ (o.kind == 4) = true ∧ 1 ≤ o.node ∧ ((2 ^ c.depth.toNat : Nat) : Int) ≤ o.node) := by
  unfold okOp at h
  simp only [beq_iff_eq, beq_eq_false_iff_ne, decide_eq_false_iff_not]
  omega

set_option maxHeartbeats 4000000 in
theorem hasOp_yes (c : Conf) (o : Op3) (h : okOp c o) (hd0 : 0 ≤ c.depth) (hd4 : c.depth ≤ 4) (w : World) : Calls Try.prog 60 #[confV c, opV o] w fun e w' => e = .returned (.bool true) ∧ Below w.heap.size w w' := by
  have hways := hasOp_ways c o h
  obtain ⟨d, hd⟩ := Int.eq_ofNat_of_zero_le hd0
  have hdn : c.depth.toNat = d := by omega
  rw [hdn] at hways
  have hf := fun W => firstOfDepth_c d (by omega) W
  generalize 2 ^ d = P2 at *
  unfold confV opV
  replace hf : Hid _ := hf
  rw [hd]
  clear h hd0 hd4 hdn hd
  rcases hways with ⟨b0, k0⟩ | ⟨b0, b1, k1⟩ | ⟨b0, b1, b2, k1⟩ | ⟨b0, b1, b2, b3, n1, n2⟩ | ⟨b0, b1, b2, b3, b4, n1, n2⟩
  · go_enter Try.func60, Try.ntmps60
    go_wp2
    go_ret
    exact ⟨rfl, ((Below.refl _ _).alloc (Nat.le_refl _) _).alloc (by simp) _⟩
  · go_enter Try.func60, Try.ntmps60
    go_wp2
    go_ret
    exact ⟨rfl, ((Below.refl _ _).alloc (Nat.le_refl _) _).alloc (by simp) _⟩
  · go_enter Try.func60, Try.ntmps60
    go_wp2
    go_ret
    exact ⟨rfl, ((Below.refl _ _).alloc (Nat.le_refl _) _).alloc (by simp) _⟩
  · go_enter Try.func60, Try.ntmps60
    go_wp2_with fail
    go_quiet ((go_at_call 55; exact Calls.quiet_of_same (hf.out _)))
    go_wp2
    go_ret
    exact ⟨rfl, Below.drewN' (((Below.refl _ _).alloc (Nat.le_refl _) _).alloc (by simp) _) _⟩
  · go_enter Try.func60, Try.ntmps60
    go_wp2_with fail
    go_quiet ((go_at_call 55; exact Calls.quiet_of_same (hf.out _)))
    go_wp2
    go_ret
    exact ⟨rfl, Below.drewN' (((Below.refl _ _).alloc (Nat.le_refl _) _).alloc (by simp) _) _⟩

set_option maxHeartbeats 4000000 in
theorem hasOp_no (c : Conf) (o : Op3) (h : ¬ okOp c o) (hd0 : 0 ≤ c.depth) (hd4 : c.depth ≤ 4) (w : World) : Calls Try.prog 60 #[confV c, opV o] w fun e w' => e = .returned (.bool false) ∧ Below w.heap.size w w' := by
  have hways := hasNo_ways c o h
  obtain ⟨d, hd⟩ := Int.eq_ofNat_of_zero_le hd0
  have hdn : c.depth.toNat = d := by omega
  rw [hdn] at hways
  have hf := fun W => firstOfDepth_c d (by omega) W
  generalize 2 ^ d = P2 at *
  unfold confV opV
  replace hf : Hid _ := hf
  rw [hd]
  clear h hd0 hd4 hdn hd
  rcases hways with ⟨b0, k0⟩ | ⟨b0, b1, k1⟩ | ⟨b0, b1, b2, k1⟩ | ⟨b0, b1, b2, b3, b4⟩ | ⟨b0, b1, b2, b3, n1⟩ | ⟨b0, b1, b2, b3, b4, n1⟩ | ⟨b0, b1, b2, b3, n1, n2⟩ | ⟨b0, b1, b2, b3, b4, n1, n2⟩
  · go_enter Try.func60, Try.ntmps60
    go_wp2
    go_ret
    exact ⟨rfl, ((Below.refl _ _).alloc (Nat.le_refl _) _).alloc (by simp) _⟩
  · go_enter Try.func60, Try.ntmps60
    go_wp2
    go_ret
    exact ⟨rfl, ((Below.refl _ _).alloc (Nat.le_refl _) _).alloc (by simp) _⟩
  · go_enter Try.func60, Try.ntmps60
    go_wp2
    go_ret
    exact ⟨rfl, ((Below.refl _ _).alloc (Nat.le_refl _) _).alloc (by simp) _⟩
  · go_enter Try.func60, Try.ntmps60
    go_wp2
    go_ret
    exact ⟨rfl, ((Below.refl _ _).alloc (Nat.le_refl _) _).alloc (by simp) _⟩
  · go_enter Try.func60, Try.ntmps60
    go_wp2_with fail
    go_quiet ((go_at_call 55; exact Calls.quiet_of_same (hf.out _)))
    go_wp2
    go_ret
    exact ⟨rfl, Below.drewN' (((Below.refl _ _).alloc (Nat.le_refl _) _).alloc (by simp) _) _⟩
  · go_enter Try.func60, Try.ntmps60
    go_wp2_with fail
    go_quiet ((go_at_call 55; exact Calls.quiet_of_same (hf.out _)))
    go_wp2
    go_ret
    exact ⟨rfl, Below.drewN' (((Below.refl _ _).alloc (Nat.le_refl _) _).alloc (by simp) _) _⟩
  · have n2' : decide (o.node < (P2 : Int)) = false := by simp; omega
    go_enter Try.func60, Try.ntmps60
    go_wp2_with fail
    go_quiet ((go_at_call 55; exact Calls.quiet_of_same (hf.out _)))
    go_wp2
    go_ret
    exact ⟨rfl, Below.drewN' (((Below.refl _ _).alloc (Nat.le_refl _) _).alloc (by simp) _) _⟩
  · have n2' : decide (o.node < (P2 : Int)) = false := by simp; omega
    go_enter Try.func60, Try.ntmps60
    go_wp2_with fail
    go_quiet ((go_at_call 55; exact Calls.quiet_of_same (hf.out _)))
    go_wp2
    go_ret
    exact ⟨rfl, Below.drewN' (((Below.refl _ _).alloc (Nat.le_refl _) _).alloc (by simp) _) _⟩

def pliveL : List PP → Nat
  | [] => 0
  | p :: r => (if p.phase = 20 then 0 else 1) + pliveL r
theorem pliveL_append (a b : List PP) : pliveL (a ++ b) = pliveL a + pliveL b := by
  induction a with
  | nil => simp [pliveL]
  | cons x a ih => simp [pliveL, ih]; omega
theorem pliveL_le (a : List PP) : pliveL a ≤ a.length := by
  induction a with
  | nil => simp [pliveL]
  | cons x a ih => simp only [pliveL, List.length_cons]; split <;> omega

theorem PRep.pp_at {w : World} {B : Nat} {L : PLay} (h : PRep Fr w B L) : ∃ ao cap, L.pv = .slice ao L.procs.length cap ∧ L.procs.length ≤ cap ∧ L.procs.length ≤ maxLen ∧ cap ≤ maxLen ∧
    ∀ i, (hi : i < L.procs.length) → ∃ g, ao = some ⟨g, 0, none⟩ ∧ ∀ j, j < 11 → w.cell? ⟨g, i * 11 + j, none⟩ = (ppCells L.procs[i])[j]? := by
  obtain ⟨ao, cap, e1, c1, c2, c3, h2⟩ := ownsRow_cells h.prow
  refine ⟨ao, cap, e1, c1, c2, c3, fun i hi => ?_⟩
  have key : ∀ j, j < 11 → ∃ g, ao = some ⟨g, 0, none⟩ ∧ w.cell? ⟨g, i * 11 + j, none⟩ = (ppCells L.procs[i])[j]? := by
    intro j hj
    have hlt : j < (ppCells L.procs[i]).length := hj
    obtain ⟨g, e, _, c⟩ := h2 (i * 11 + j) ((ppCells L.procs[i])[j]) (by rw [flat_at ppCells 11 pp_len L.procs i hi j hj, List.getElem?_eq_getElem hlt])
    exact ⟨g, e, by rw [c, List.getElem?_eq_getElem hlt]⟩
  obtain ⟨g, rfl, _⟩ := key 0 (by omega)
  refine ⟨g, rfl, fun j hj => ?_⟩
  obtain ⟨g', e, c⟩ := key j hj
  simp at e; subst e; exact c

set_option maxHeartbeats 2000000 in
theorem plive_c {w : World} {B : Nat} {L : PLay} (h : PRep Fr w B L) :
    Calls Try.prog 59 #[.pointer (some ⟨L.tb, 0, none⟩)] w fun e w' => e = .returned (I (pliveL L.procs)) ∧ w' = w := by
  have h1 := h.pcell
  obtain ⟨ao, cap, e1, c1, c2, c3, h2⟩ := h.pp_at
  rw [e1] at h1
  clear e1
  have hp : ∀ i, (hi : i < L.procs.length) → ∃ g, ao = some ⟨g, 0, none⟩ ∧ w.cell? ⟨g, i * 11 + 3, none⟩ = some (I (L.procs[i]).phase) := fun i hi => by
    obtain ⟨g, e, f⟩ := h2 i hi
    exact ⟨g, e, f 3 (by omega)⟩
  clear h2
  generalize hps : L.procs = ps at *
  generalize L.tb = tb at *
  unfold maxLen at c2 c3
  clear h
  go_enter Try.func59, Try.ntmps59
  go_wp2
  go_loop [3, 4] (fun n i => ∃ k : Nat, k ≤ ps.length ∧ n = .int .i64 (pliveL (ps.take k)) ∧ i = .int .i64 k) (fun _ i => ps.length - (intOf i).toNat)
  case atStart => exact ⟨0, Nat.zero_le _, rfl, rfl⟩
  case round =>
    obtain ⟨k, hk, rfl, rfl⟩ := hrel
    have hle := pliveL_le (ps.take k)
    have hle2 : (ps.take k).length ≤ k := List.length_take_le _ _
    by_cases hlt : k < ps.length
    · obtain ⟨g, rfl, hc⟩ := hp k hlt
      have hts := take_succ_get ps k hlt
      have HT : Hid (pliveL (ps.take (k + 1)) = pliveL (ps.take k) + if (ps[k]).phase = 20 then 0 else 1) := by show _ = _; rw [hts, pliveL_append]; simp [pliveL]
      clear hts hp
      generalize hpk : ps[k] = p at *
      clear hpk
      by_cases hh : p.phase = 20
      · have b1 : (p.phase != 20) = false := by simp [hh]
        have HC : Hid (pliveL (ps.take (k + 1)) = pliveL (ps.take k)) := by show _ = _; rw [HT.out, if_pos hh]; rfl
        clear HT hh
        go_wp2
        go_round
        case rel => exact ⟨k + 1, by omega, int_of (by rw [HC.out]), by go_num⟩
        case measure => simp [intOf]; omega
      · have b1 : (p.phase != 20) = true := by simp [hh]
        have HC : Hid (pliveL (ps.take (k + 1)) = pliveL (ps.take k) + 1) := by show _ = _; rw [HT.out, if_neg hh]
        clear HT hh
        go_wp2
        go_round
        case rel => exact ⟨k + 1, by omega, int_of (by rw [HC.out]; omega), by go_num⟩
        case measure => simp [intOf]; omega
    · have HC : Hid (pliveL ps = pliveL (ps.take k)) := by show _ = _; rw [List.take_of_length_le (by omega)]
      go_wp2
      go_ret
      exact ⟨by rw [HC.out]; rfl, rfl⟩

theorem nb_alloc3 (w : World) (o o' : Obj) (arr : Array Value) (T : TypeId) : (((w.alloc o).alloc o').alloc (.cells arr T)).heap[w.heap.size + 2]? = some (.cells arr T (0, 0)) := by
  have := nb_alloc ((w.alloc o).alloc o') arr T
  have e : ((w.alloc o).alloc o').heap.size = w.heap.size + 2 := by simp
  rw [e] at this
  exact this

set_option maxHeartbeats 2000000 in
theorem newProcess_c (o : Op3) (w : World) : Calls Try.prog 61 #[opV o] w fun e w' => e = .returned (.agg (ppCells (newPP o)).toArray) ∧ Below w.heap.size w w' := by
  have hch := fun W => pchanges_c o W
  unfold opV at hch ⊢
  replace hch : Hid _ := hch
  obtain ⟨kind, val, node⟩ := o
  simp only at *
  by_cases hc : isChange ⟨kind, val, node⟩ = true
  · rw [hc] at hch
    by_cases hn : node = 1
    · have bn : (node == 1) = true := by simp [hn]
      have HNP : Hid (newPP ⟨kind, val, node⟩ = ⟨kind, val, node, 15, 1, 0, 0, 0, 0, 0, 0⟩) := by show _ = _; rw [newPP, hc]; simp [hn]
      clear hc hn
      go_enter Try.func61, Try.ntmps61
      go_wp2_with fail
      refine (hch.out _).mono ?_
      rintro e w1 ⟨rfl, hb1⟩
      have na : w1.heap[w.heap.size]? = some (.cells #[I kind, I val, I node] 51 (0, 0)) := (hb1.block _ (by simp; omega)).trans (by
        rw [Below.heap_alloc _ _ _ (by simp; omega), Below.heap_alloc _ _ _ (by simp)]; exact nb_alloc _ _ _)
      have nb : w1.heap[w.heap.size + 1]? = some (.cells #[I 0, I 0, I 0, I 0, I 0, I 0, I 0, I 0, I 0, I 0, I 0] 101 (0, 0)) := (hb1.block _ (by simp)).trans (by
        rw [Below.heap_alloc _ _ _ (by simp)]
        exact nb_alloc2 _ _ _ _)
      have nc : w1.heap[w.heap.size + 2]? = some (.cells #[I kind, I val, I node, I 0, I 1, I 0, I 0, I 0, I 0, I 0, I 0] 101 (0, 0)) := (hb1.block _ (by simp)).trans (nb_alloc3 _ _ _ _ _)
      have hb2 : Below w.heap.size w w1 := ((((Below.refl _ _).alloc (Nat.le_refl _) _).alloc (by simp) _).alloc (by simp; omega) _).trans (hb1.mono (by simp; omega))
      obtain ⟨f1, _⟩ := nb_facts na
      obtain ⟨g1, g2⟩ := nb_facts nb
      obtain ⟨h1, h2⟩ := nb_facts nc
      clear hb1 hch na nb nc
      go_wp2
      refine bodyPost_ret (v := .agg #[I kind, I val, I node, I 15, I 1, I 0, I 0, I 0, I 0, I 0, I 0]) (by simp [results, Try.results61, go_sem, g1]) rfl ⟨by rw [HNP.out]; rfl, ?_⟩
      have hb3 := hb2.setCell (p := ⟨w.heap.size + 2, 3, none⟩) (by simp) (I 15)
      exact (((((((((((hb3.setCell (p := ⟨w.heap.size + 1, 0, none⟩) (by simp) (I kind)).setCell (p := ⟨w.heap.size + 1, 1, none⟩) (by simp) (I val)).setCell (p := ⟨w.heap.size + 1, 2, none⟩) (by simp) (I node)).setCell (p := ⟨w.heap.size + 1, 3, none⟩) (by simp) (I 15)).setCell (p := ⟨w.heap.size + 1, 4, none⟩) (by simp) (I 1)).setCell (p := ⟨w.heap.size + 1, 5, none⟩) (by simp) (I 0)).setCell (p := ⟨w.heap.size + 1, 6, none⟩) (by simp) (I 0)).setCell (p := ⟨w.heap.size + 1, 7, none⟩) (by simp) (I 0)).setCell (p := ⟨w.heap.size + 1, 8, none⟩) (by simp) (I 0)).setCell (p := ⟨w.heap.size + 1, 9, none⟩) (by simp) (I 0)).setCell (p := ⟨w.heap.size + 1, 10, none⟩) (by simp) (I 0))
    · have bn : (node == 1) = false := by simp [hn]
      have HNP : Hid (newPP ⟨kind, val, node⟩ = ⟨kind, val, node, 0, 1, 0, 0, 0, 0, 0, 0⟩) := by show _ = _; rw [newPP, hc]; simp [hn]
      clear hc hn
      go_enter Try.func61, Try.ntmps61
      go_wp2_with fail
      refine (hch.out _).mono ?_
      rintro e w1 ⟨rfl, hb1⟩
      have na : w1.heap[w.heap.size]? = some (.cells #[I kind, I val, I node] 51 (0, 0)) := (hb1.block _ (by simp; omega)).trans (by
        rw [Below.heap_alloc _ _ _ (by simp; omega), Below.heap_alloc _ _ _ (by simp)]; exact nb_alloc _ _ _)
      have nb : w1.heap[w.heap.size + 1]? = some (.cells #[I 0, I 0, I 0, I 0, I 0, I 0, I 0, I 0, I 0, I 0, I 0] 101 (0, 0)) := (hb1.block _ (by simp)).trans (by
        rw [Below.heap_alloc _ _ _ (by simp)]
        exact nb_alloc2 _ _ _ _)
      have nc : w1.heap[w.heap.size + 2]? = some (.cells #[I kind, I val, I node, I 0, I 1, I 0, I 0, I 0, I 0, I 0, I 0] 101 (0, 0)) := (hb1.block _ (by simp)).trans (nb_alloc3 _ _ _ _ _)
      have hb2 : Below w.heap.size w w1 := ((((Below.refl _ _).alloc (Nat.le_refl _) _).alloc (by simp) _).alloc (by simp; omega) _).trans (hb1.mono (by simp; omega))
      obtain ⟨f1, _⟩ := nb_facts na
      obtain ⟨g1, g2⟩ := nb_facts nb
      obtain ⟨h1, h2⟩ := nb_facts nc
      clear hb1 hch na nb nc
      go_wp2
      refine bodyPost_ret (v := .agg #[I kind, I val, I node, I 0, I 1, I 0, I 0, I 0, I 0, I 0, I 0]) (by simp [results, Try.results61, go_sem, g1]) rfl ⟨by rw [HNP.out]; rfl, ?_⟩
      exact (((((((((((hb2.setCell (p := ⟨w.heap.size + 1, 0, none⟩) (by simp) (I kind)).setCell (p := ⟨w.heap.size + 1, 1, none⟩) (by simp) (I val)).setCell (p := ⟨w.heap.size + 1, 2, none⟩) (by simp) (I node)).setCell (p := ⟨w.heap.size + 1, 3, none⟩) (by simp) (I 0)).setCell (p := ⟨w.heap.size + 1, 4, none⟩) (by simp) (I 1)).setCell (p := ⟨w.heap.size + 1, 5, none⟩) (by simp) (I 0)).setCell (p := ⟨w.heap.size + 1, 6, none⟩) (by simp) (I 0)).setCell (p := ⟨w.heap.size + 1, 7, none⟩) (by simp) (I 0)).setCell (p := ⟨w.heap.size + 1, 8, none⟩) (by simp) (I 0)).setCell (p := ⟨w.heap.size + 1, 9, none⟩) (by simp) (I 0)).setCell (p := ⟨w.heap.size + 1, 10, none⟩) (by simp) (I 0))
  · have hcf : isChange ⟨kind, val, node⟩ = false := by simpa using hc
    rw [hcf] at hch
    have HNP : Hid (newPP ⟨kind, val, node⟩ = ⟨kind, val, node, 0, 1, 0, 0, 0, 0, 0, 0⟩) := by show _ = _; rw [newPP, hcf]; simp
    clear hc hcf
    go_enter Try.func61, Try.ntmps61
    go_wp2_with fail
    refine (hch.out _).mono ?_
    rintro e w1 ⟨rfl, hb1⟩
    have na : w1.heap[w.heap.size]? = some (.cells #[I kind, I val, I node] 51 (0, 0)) := (hb1.block _ (by simp; omega)).trans (by
      rw [Below.heap_alloc _ _ _ (by simp; omega), Below.heap_alloc _ _ _ (by simp)]; exact nb_alloc _ _ _)
    have nb : w1.heap[w.heap.size + 1]? = some (.cells #[I 0, I 0, I 0, I 0, I 0, I 0, I 0, I 0, I 0, I 0, I 0] 101 (0, 0)) := (hb1.block _ (by simp)).trans (by
      rw [Below.heap_alloc _ _ _ (by simp)]
      exact nb_alloc2 _ _ _ _)
    have nc : w1.heap[w.heap.size + 2]? = some (.cells #[I kind, I val, I node, I 0, I 1, I 0, I 0, I 0, I 0, I 0, I 0] 101 (0, 0)) := (hb1.block _ (by simp)).trans (nb_alloc3 _ _ _ _ _)
    have hb2 : Below w.heap.size w w1 := ((((Below.refl _ _).alloc (Nat.le_refl _) _).alloc (by simp) _).alloc (by simp; omega) _).trans (hb1.mono (by simp; omega))
    obtain ⟨f1, _⟩ := nb_facts na
    obtain ⟨g1, g2⟩ := nb_facts nb
    obtain ⟨h1, h2⟩ := nb_facts nc
    clear hb1 hch na nb nc
    go_wp2
    refine bodyPost_ret (v := .agg #[I kind, I val, I node, I 0, I 1, I 0, I 0, I 0, I 0, I 0, I 0]) (by simp [results, Try.results61, go_sem, g1]) rfl ⟨by rw [HNP.out]; rfl, ?_⟩
    exact (((((((((((hb2.setCell (p := ⟨w.heap.size + 1, 0, none⟩) (by simp) (I kind)).setCell (p := ⟨w.heap.size + 1, 1, none⟩) (by simp) (I val)).setCell (p := ⟨w.heap.size + 1, 2, none⟩) (by simp) (I node)).setCell (p := ⟨w.heap.size + 1, 3, none⟩) (by simp) (I 0)).setCell (p := ⟨w.heap.size + 1, 4, none⟩) (by simp) (I 1)).setCell (p := ⟨w.heap.size + 1, 5, none⟩) (by simp) (I 0)).setCell (p := ⟨w.heap.size + 1, 6, none⟩) (by simp) (I 0)).setCell (p := ⟨w.heap.size + 1, 7, none⟩) (by simp) (I 0)).setCell (p := ⟨w.heap.size + 1, 8, none⟩) (by simp) (I 0)).setCell (p := ⟨w.heap.size + 1, 9, none⟩) (by simp) (I 0)).setCell (p := ⟨w.heap.size + 1, 10, none⟩) (by simp) (I 0))

theorem PRep.push {w w1 w2 : World} {B : Nat} {L : PLay} {p : PP} {x : Value} (h : PRep Fr w B L) (hw : Below w.heap.size w w1)
    (ho : w2.ownsRow B 101 11 x (L.procs.length + 1) (L.procs.flatMap ppCells ++ ppCells p)) (hg : w1.grownBy w2 L.pv.ownBlock) (hx : ∀ g, x.ownBlock = some g → L.pv.ownBlock = some g ∨ w.heap.size ≤ g) :
    PRep Fr (w2.setCell ⟨L.tb, 680, none⟩ x) B { L with pv := x, procs := L.procs ++ [p] } ∧ ChgT Fr B [81, 101] w (w2.setCell ⟨L.tb, 680, none⟩ x) := by
  have h1 := h.below hw
  have hne : some L.tb ≠ L.pv.ownBlock := by
    intro e
    obtain ⟨c', hc'⟩ := ownsRow_block h.prow e.symm
    rw [h.tree] at hc'
    simp at hc'
  have ht2 : w2.heap[L.tb]? = some (.cells (pTree L).toArray 81 (0, 0)) := by
    rw [hg.block L.tb (by have := h1.size; omega) hne]; exact h1.tree
  have hch : ChgT Fr B [81, 101] w (w2.setCell ⟨L.tb, 680, none⟩ x) := by
    refine ⟨hg.os.trans hw.os, hg.tape.trans hw.tape, hg.output.trans hw.output, by simpa [World.setCell] using Nat.le_trans hw.size hg.size, fun k hk hc => ?_, fun k hk hf => by
      rw [Below.heap_setCell _ _ _ _ (fun e => h.far.2.1 (by rw [← show k = L.tb from e]; exact hf)), hg.block k (by have := hw.size; omega) (fun e => h.far.2.2.1 k e.symm hf), hw.block k hk]⟩
    have hkt : k ≠ L.tb := by
      intro e
      subst e
      rcases hc with hc | hc
      · have := h.treeB; omega
      · exact absurd (hc _ _ _ h.tree) (by simp)
    rw [Below.heap_setCell _ _ _ _ hkt, hg.block k (by have := hw.size; omega) (fun he => ?_), hw.block k hk]
    rcases hc with hc | hc
    · have := (h.prow.lt k he.symm).1; omega
    · obtain ⟨c', hc'⟩ := ownsRow_block h.prow he.symm
      exact absurd (hc _ _ _ hc') (by simp)
  refine ⟨⟨?_, h.treeB, h.len, ?_, fun v hv => hch.row (h.items v hv) (by decide), h.ind, ⟨fun k hk => Nat.lt_of_lt_of_le (h.far.1 k hk) hch.size, h.far.2.1, fun g hg' hf => (hx g hg').elim (fun e => h.far.2.2.1 g e hf) fun e => by have := h.far.1 g hf; omega, h.far.2.2.2⟩⟩, hch⟩
  · have := nb_set ht2 680 x
    rw [this]
    congr 2
    have e : (pTree L).set 680 x = pTree { L with pv := x, procs := L.procs ++ [p] } := by
      have hl : (pConf L.c ++ L.nodes.flatMap pnCells).length = 680 := by
        rw [List.length_append, flat_length pnCells 21 pn_len, h.len]; rfl
      show (pConf L.c ++ (L.nodes.flatMap pnCells ++ [L.pv])).set 680 x = pConf L.c ++ (L.nodes.flatMap pnCells ++ [x])
      rw [← List.append_assoc, ← List.append_assoc, List.set_append_right _ _ (by omega), hl]
      rfl
    rw [← e]
    simp
  · have := ownsRow_setCell_type ho ht2 (by decide) 680 x
    simpa using this

theorem PRep.conf_cells {w : World} {B : Nat} {L : PLay} (h : PRep Fr w B L) : w.cell? ⟨L.tb, 0, none⟩ = some (I L.c.kind) ∧ w.cell? ⟨L.tb, 1, none⟩ = some (I L.c.depth) ∧ w.cell? ⟨L.tb, 2, none⟩ = some (I L.c.start) ∧ w.cell? ⟨L.tb, 3, none⟩ = some (I L.c.slots) ∧ w.cell? ⟨L.tb, 4, none⟩ = some (I L.c.width) ∧ w.cell? ⟨L.tb, 5, none⟩ = some (I L.c.spin) ∧ w.cell? ⟨L.tb, 6, none⟩ = some (I L.c.drain) ∧ w.cell? ⟨L.tb, 7, none⟩ = some (I L.c.procs) :=
  ⟨h.ccell 0 (by omega), h.ccell 1 (by omega), h.ccell 2 (by omega), h.ccell 3 (by omega), h.ccell 4 (by omega), h.ccell 5 (by omega), h.ccell 6 (by omega), h.ccell 7 (by omega)⟩

set_option maxHeartbeats 4000000 in
theorem pspawn_err2 {w : World} {B : Nat} {L : PLay} (h : PRep Fr w B L) (o : Op3) (ho : ¬ okOp L.c o) (hd0 : 0 ≤ L.c.depth) (hd4 : L.c.depth ≤ 4) :
    Calls Try.prog 49 #[.pointer (some ⟨L.tb, 0, none⟩), opV o] w fun e w' => e = .returned (.tuple #[I 0, I 2]) ∧ Below w.heap.size w w' := by
  have hh := fun W => hasOp_no L.c o ho hd0 hd4 W
  obtain ⟨c0, c1, c2, c3, c4, c5, c6, c7⟩ := h.conf_cells
  have l0 := h.size
  unfold opV confV at *
  replace hh : Hid _ := hh
  clear h ho hd0 hd4
  obtain ⟨kind, val, node⟩ := o
  simp only at *
  go_enter Try.func49, Try.ntmps49
  go_wp2_with fail
  go_region_with (go_at_call 60; refine (hh.out _).mono ?_; rintro e w1 ⟨rfl, hb1⟩)
  all_goals
    go_wp2
    go_ret2
    exact ⟨rfl, ((Below.refl _ _).alloc (Nat.le_refl _) _).drew.trans (hb1.mono (by show w.heap.size ≤ (w.alloc _).heap.size; simp))⟩

set_option maxHeartbeats 4000000 in
theorem pspawn_err3 {w : World} {B : Nat} {L : PLay} (h : PRep Fr w B L) (o : Op3) (ho : okOp L.c o) (hd0 : 0 ≤ L.c.depth) (hd4 : L.c.depth ≤ 4) (hn : L.procs.length = 256) :
    Calls Try.prog 49 #[.pointer (some ⟨L.tb, 0, none⟩), opV o] w fun e w' => e = .returned (.tuple #[I 0, I 3]) ∧ Below w.heap.size w w' := by
  have hh := fun W => hasOp_yes L.c o ho hd0 hd4 W
  obtain ⟨c0, c1, c2, c3, c4, c5, c6, c7⟩ := h.conf_cells
  have c8 := h.pcell
  obtain ⟨ao, cap, e1, q1, q2, q3, hx⟩ := h.pp_at
  clear hx
  rw [e1, hn] at c8
  have l0 := h.size
  unfold opV confV at *
  replace hh : Hid _ := hh
  clear h ho hd0 hd4 e1 hn q1 q2 q3
  obtain ⟨kind, val, node⟩ := o
  simp only at *
  go_enter Try.func49, Try.ntmps49
  go_wp2_with fail
  go_region_with (go_at_call 60; refine (hh.out _).mono ?_; rintro e w1 ⟨rfl, hb1⟩)
  all_goals
    have hb2 : Below w.heap.size w w1 := ((Below.refl _ _).alloc (Nat.le_refl _) _).drew.trans (hb1.mono (by show w.heap.size ≤ (w.alloc _).heap.size; simp))
    have k8 := (hb2.cell (p := ⟨L.tb, 680, none⟩) l0).trans c8
    clear hb1
    go_wp2
    go_ret2
    exact ⟨rfl, hb2⟩

set_option maxHeartbeats 4000000 in
theorem pspawn_err4 {w : World} {B : Nat} {L : PLay} (h : PRep Fr w B L) (o : Op3) (ho : okOp L.c o) (hd0 : 0 ≤ L.c.depth) (hd4 : L.c.depth ≤ 4) (hn : L.procs.length < 256) (hlv : L.c.procs ≤ (pliveL L.procs : Int)) :
    Calls Try.prog 49 #[.pointer (some ⟨L.tb, 0, none⟩), opV o] w fun e w' => e = .returned (.tuple #[I 0, I 4]) ∧ Below w.heap.size w w' := by
  have hh := fun W => hasOp_yes L.c o ho hd0 hd4 W
  have hlive := fun W (hb : Below w.heap.size w W) => plive_c (h.below hb)
  obtain ⟨c0, c1, c2, c3, c4, c5, c6, c7⟩ := h.conf_cells
  have c8 := h.pcell
  obtain ⟨ao, cap, e1, q1, q2, q3, hx⟩ := h.pp_at
  clear hx
  rw [e1] at c8
  have l0 := h.size
  have hd : decide ((256 : Int) ≤ (L.procs.length : Int)) = false := by simp; omega
  unfold opV confV at *
  replace hh : Hid _ := hh
  replace hlive : Hid _ := hlive
  clear h ho hd0 hd4 e1 q1 q2 q3
  generalize pliveL L.procs = lv at *
  generalize L.procs.length = n at *
  obtain ⟨kind, val, node⟩ := o
  simp only at *
  go_enter Try.func49, Try.ntmps49
  go_wp2_with fail
  go_region_with (go_at_call 60; refine (hh.out _).mono ?_; rintro e w1 ⟨rfl, hb1⟩)
  all_goals
    have hb2 : Below w.heap.size w w1 := ((Below.refl _ _).alloc (Nat.le_refl _) _).drew.trans (hb1.mono (by show w.heap.size ≤ (w.alloc _).heap.size; simp))
    have k8 := (hb2.cell (p := ⟨L.tb, 680, none⟩) l0).trans c8
    have k7 := (hb2.cell (p := ⟨L.tb, 7, none⟩) l0).trans c7
    clear hb1 c0 c1 c2 c3 c4 c5 c6 c7 c8 hh
    go_wp2_with fail
    go_quiet ((go_at_call 59; exact Calls.quiet_of_same (hlive.out _ (by first | exact hb2.drew | exact Below.drewN' hb2 _ | exact hb2))))
    go_wp2
    go_ret2
    exact ⟨rfl, Below.drewN' hb2 _⟩

theorem Try.info101 : (Try.prog.info? 101).map (fun i => (i.zero, i.size, i.bytes)) = some (some (.agg #[.int .i64 0, .int .i64 0, .int .i64 0, .int .i64 0, .int .i64 0, .int .i64 0, .int .i64 0, .int .i64 0, .int .i64 0, .int .i64 0, .int .i64 0]), 11, 88) := by kernel_rfl

set_option maxHeartbeats 8000000 in
theorem pspawn_yes {w : World} {B : Nat} {L : PLay} (h : PRep Fr w B L) (hB : B ≤ w.heap.size) (o : Op3) (ho : okOp L.c o) (hd0 : 0 ≤ L.c.depth) (hd4 : L.c.depth ≤ 4) (hn : L.procs.length < 256) (hlv : (pliveL L.procs : Int) < L.c.procs) :
    Calls Try.prog 49 #[.pointer (some ⟨L.tb, 0, none⟩), opV o] w fun e w' => e = .returned (.tuple #[I L.procs.length, I 0]) ∧ (∃ x, PRep Fr w' B { L with pv := x, procs := L.procs ++ [newPP o] }) ∧ ChgT Fr B [81, 101] w w' := by
  have hh := fun W => hasOp_yes L.c o ho hd0 hd4 W
  have hlive := fun W (hb : Below w.heap.size w W) => plive_c (h.below hb)
  have hnp := fun W => newProcess_c o W
  obtain ⟨c0, c1, c2, c3, c4, c5, c6, c7⟩ := h.conf_cells
  have c8 := h.pcell
  obtain ⟨ao, cap, e1, q1, q2, q3, hx⟩ := h.pp_at
  clear hx
  rw [e1] at c8
  have l0 := h.size
  have hd : decide ((256 : Int) ≤ (L.procs.length : Int)) = false := by simp; omega
  have hdl : decide (L.c.procs ≤ ((pliveL L.procs : Nat) : Int)) = false := by simp; omega
  unfold opV confV at *
  replace hh : Hid _ := hh
  replace hlive : Hid _ := hlive
  replace hnp : Hid _ := hnp
  clear ho hd0 hd4
  generalize pliveL L.procs = lv at *
  obtain ⟨kind, val, node⟩ := o
  simp only at *
  go_enter Try.func49, Try.ntmps49
  go_wp2_with fail
  go_region_with (go_at_call 60; refine (hh.out _).mono ?_; rintro e w1 ⟨rfl, hb1⟩)
  all_goals
    have hb2 : Below w.heap.size w w1 := ((Below.refl _ _).alloc (Nat.le_refl _) _).drew.trans (hb1.mono (by show w.heap.size ≤ (w.alloc _).heap.size; simp))
    have nbo : w1.heap[w.heap.size]? = some (.cells #[I kind, I val, I node] 51 (0, 0)) := (hb1.block _ (by show w.heap.size < (w.alloc _).heap.size; simp)).trans (nb_alloc _ _ _)
    have k8 := (hb2.cell (p := ⟨L.tb, 680, none⟩) l0).trans c8
    have k7 := (hb2.cell (p := ⟨L.tb, 7, none⟩) l0).trans c7
    clear hb1 c0 c1 c2 c3 c4 c5 c6 hh
    go_wp2_with fail
    go_quiet ((go_at_call 59; exact Calls.quiet_of_same (hlive.out _ (by first | exact hb2.drew | exact Below.drewN' hb2 _ | exact hb2))))
    have hb3 := Below.drewN' hb2 nq
    have hbq : Below w1.heap.size w1 (w1.drewN nq) := Below.drewN' (Below.refl _ _) nq
    have nbo2 := (hbq.block _ (Array.getElem?_eq_some_iff.1 nbo).1).trans nbo
    have k82 := (hb3.cell (p := ⟨L.tb, 680, none⟩) l0).trans c8
    have l1 : L.tb < (w1.drewN nq).heap.size := Nat.lt_of_lt_of_le l0 hb3.size
    clear hb2 nbo k8 k7 hlive hbq
    generalize w1.drewN nq = wq at *
    obtain ⟨f1, _⟩ := nb_facts nbo2
    go_wp2_with fail
    refine (hnp.out _).mono ?_
    rintro e w3 ⟨rfl, hb4⟩
    have HPP : Hid (ppCells (newPP ⟨kind, val, node⟩) = [I (newPP ⟨kind, val, node⟩).kind, I (newPP ⟨kind, val, node⟩).oval, I (newPP ⟨kind, val, node⟩).onode, I (newPP ⟨kind, val, node⟩).phase, I (newPP ⟨kind, val, node⟩).node, I (newPP ⟨kind, val, node⟩).val, I (newPP ⟨kind, val, node⟩).width, I (newPP ⟨kind, val, node⟩).slot, I (newPP ⟨kind, val, node⟩).mind, I (newPP ⟨kind, val, node⟩).pat, I (newPP ⟨kind, val, node⟩).ticket]) := rfl
    rw [HPP.out]
    generalize (newPP ⟨kind, val, node⟩).kind = pk at *
    generalize (newPP ⟨kind, val, node⟩).oval = pv at *
    generalize (newPP ⟨kind, val, node⟩).onode = po at *
    generalize (newPP ⟨kind, val, node⟩).phase = ph at *
    generalize (newPP ⟨kind, val, node⟩).node = pn at *
    generalize (newPP ⟨kind, val, node⟩).val = pl at *
    generalize (newPP ⟨kind, val, node⟩).width = pw at *
    generalize (newPP ⟨kind, val, node⟩).slot = ps at *
    generalize (newPP ⟨kind, val, node⟩).mind = pm at *
    generalize (newPP ⟨kind, val, node⟩).pat = pa at *
    generalize (newPP ⟨kind, val, node⟩).ticket = pt at *
    have hb5 := hb3.trans (hb4.mono hb3.size)
    have k83 := (hb5.cell (p := ⟨L.tb, 680, none⟩) l0).trans c8
    have l2 : L.tb < w3.heap.size := Nat.lt_of_lt_of_le l0 hb5.size
    clear f1 nbo2 k82 hb3 hb4 hnp
    go_wp2_with fail
    have hrow : w3.ownsRow B 101 11 (.slice ao L.procs.length cap) L.procs.length (L.procs.flatMap ppCells) := by have := ownsRow_below h.prow hb5 (Nat.le_refl _); rw [e1] at this; exact this
    have hsz := hb5.size
    have HB2 : Hid (Below w.heap.size w (((w3.alloc (.cells #[I pk, I pv, I po, I ph, I pn, I pl, I pw, I ps, I pm, I pa, I pt] 101)).alloc (.cells #[I pk, I pv, I po, I ph, I pn, I pl, I pw, I ps, I pm, I pa, I pt] 101)).drew)) := ((hb5.alloc hb5.size _).alloc (by simp; omega) _).drew
    have HO : Hid ((((w3.alloc (.cells #[I pk, I pv, I po, I ph, I pn, I pl, I pw, I ps, I pm, I pa, I pt] 101)).alloc (.cells #[I pk, I pv, I po, I ph, I pn, I pl, I pw, I ps, I pm, I pa, I pt] 101)).drew).ownsRow B 101 11 (.slice ao L.procs.length cap) L.procs.length (L.procs.flatMap ppCells)) := ((hrow.alloc _).alloc _).drew
    have HN : Hid (∀ j u, [I pk, I pv, I po, I ph, I pn, I pl, I pw, I ps, I pm, I pa, I pt][j]? = some u → (((w3.alloc (.cells #[I pk, I pv, I po, I ph, I pn, I pl, I pw, I ps, I pm, I pa, I pt] 101)).alloc (.cells #[I pk, I pv, I po, I ph, I pn, I pl, I pw, I ps, I pm, I pa, I pt] 101)).drew).cell? ((⟨w3.heap.size + 1, 0, none⟩ : Addr).add j) = some u) := by
      have := cells_new (w3.alloc (.cells #[I pk, I pv, I po, I ph, I pn, I pl, I pw, I ps, I pm, I pa, I pt] 101)) [I pk, I pv, I po, I ph, I pn, I pl, I pw, I ps, I pm, I pa, I pt] 101
      simp only [World.size_alloc] at this
      exact this
    have H1 : Hid (∀ u ∈ [I pk, I pv, I po, I ph, I pn, I pl, I pw, I ps, I pm, I pa, I pt], u.oneCell' = true) := by
      intro u hu
      simp only [List.mem_cons, List.not_mem_nil, or_false] at hu
      rcases hu with h | h | h | h | h | h | h | h | h | h | h <;> subst h <;> rfl
    have HB : Hid (B ≤ (((w3.alloc (.cells #[I pk, I pv, I po, I ph, I pn, I pl, I pw, I ps, I pm, I pa, I pt] 101)).alloc (.cells #[I pk, I pv, I po, I ph, I pn, I pl, I pw, I ps, I pm, I pa, I pt] 101)).drew).heap.size) := by
      show B ≤ ((w3.alloc _).alloc _).heap.size
      simp; omega
    have HM : Hid (L.procs.length + 1 ≤ maxLen) := by show _ ≤ _; unfold maxLen; omega
    have HY : Hid ((L.procs.length + 1) * 88 ≤ 140737488355328) := by show _ ≤ _; omega
    have HH : Hid ((((w3.alloc (.cells #[I pk, I pv, I po, I ph, I pn, I pl, I pw, I ps, I pm, I pa, I pt] 101)).alloc (.cells #[I pk, I pv, I po, I ph, I pn, I pl, I pw, I ps, I pm, I pa, I pt] 101)).drew).heap.size = w3.heap.size + 2) := by
      show ((w3.alloc _).alloc _).heap.size = _
      simp
    have HC : Hid (∀ w', (((w3.alloc (.cells #[I pk, I pv, I po, I ph, I pn, I pl, I pw, I ps, I pm, I pa, I pt] 101)).alloc (.cells #[I pk, I pv, I po, I ph, I pn, I pl, I pw, I ps, I pm, I pa, I pt] 101)).drew).grownBy w' (Value.slice ao L.procs.length cap).ownBlock → w'.cell? ⟨L.tb, 680, none⟩ = some (.slice ao L.procs.length cap) ∧ w'.frozen? ⟨L.tb, 680, none⟩ = false) := by
      intro w' hg
      have hne : some L.tb ≠ (Value.slice ao L.procs.length cap).ownBlock := by
        rw [← e1]
        intro e
        obtain ⟨c', hc'⟩ := ownsRow_block h.prow e.symm
        rw [h.tree] at hc'
        simp at hc'
      have ht0 : w'.heap[L.tb]? = w.heap[L.tb]? := (hg.block L.tb (by show L.tb < ((w3.alloc _).alloc _).heap.size; simp; omega) hne).trans (HB2.out.block L.tb l0)
      exact ⟨(World.cell?_of_block (a := ⟨L.tb, 680, none⟩) ht0).trans c8, (World.frozen?_of_block (a := ⟨L.tb, 680, none⟩) ht0).trans ((nb_facts h.tree).2 680)⟩
    have HP : Hid (∀ w' x, w'.ownsRow B 101 11 x (L.procs.length + 1) (L.procs.flatMap ppCells ++ [I pk, I pv, I po, I ph, I pn, I pl, I pw, I ps, I pm, I pa, I pt]) → (((w3.alloc (.cells #[I pk, I pv, I po, I ph, I pn, I pl, I pw, I ps, I pm, I pa, I pt] 101)).alloc (.cells #[I pk, I pv, I po, I ph, I pn, I pl, I pw, I ps, I pm, I pa, I pt] 101)).drew).grownBy w' (Value.slice ao L.procs.length cap).ownBlock → (∀ g, x.ownBlock = some g → (Value.slice ao L.procs.length cap).ownBlock = some g ∨ g = w3.heap.size + 2) →
        PRep Fr (w'.setCell ⟨L.tb, 680, none⟩ x) B { L with pv := x, procs := L.procs ++ [newPP ⟨kind, val, node⟩] } ∧ ChgT Fr B [81, 101] w (w'.setCell ⟨L.tb, 680, none⟩ x)) := by
      intro w' x a1 a2 a3
      rw [← HPP.out] at a1
      rw [← e1] at a2 a3
      exact h.push HB2.out a1 a2 fun g hg => (a3 g hg).imp id fun e => by have := hb5.size; omega
    clear hrow hb5 hsz c7 c8 hB h e1 HPP
    obtain ⟨i0, hi, hz0, hz1, hz2⟩ := info_parts Try.info101
    go_region_law (refine step_append_lies _ rfl (.tmp 40) (.tmp 42) 79 rfl B 101 i0 _ 11 88 Try.underlying79 hi hz0 hz1 hz2 rfl (by decide) _ _ _ rfl HO.out ⟨w3.heap.size + 1, 0, none⟩ 1 1 [I pk, I pv, I po, I ph, I pn, I pl, I pw, I ps, I pm, I pa, I pt] rfl rfl HN.out H1.out (by decide) HM.out HY.out HB.out (w3.heap.size + 2) HH.out ?_; intro g cp w4 ho4 hg4 hgl4 _; obtain ⟨cc1, cc2⟩ := HC.out _ hg4; have hfin := HP.out _ _ ho4 hg4 (fun g' hg' => by simp only [Value.ownBlock, Option.some.injEq] at hg'; subst hg'; exact hgl4); replace hfin : Hid _ := hfin; clear hg4 ho4)
    all_goals
      go_wp2
      go_ret2
      exact ⟨rfl, ⟨_, hfin.out.1⟩, hfin.out.2⟩

end Go.Proofs.Ytjnmpejcegmkhab

namespace Go.Proofs.Ytjnmpejcegmkhab
open Go.RowKit
variable {Fr : Nat → Prop}

def opCells (o : Op3) : List Value := [I o.kind, I o.val, I o.node]
def handCells (P : PLay) (ov wv : Value) : List Value := [.pointer (some ⟨P.tb, 0, none⟩), I P.c.kind, I P.c.depth, I P.c.start, I P.c.slots, I P.c.width, I P.c.spin, I P.c.drain, I P.c.procs, ov, wv]

/-- The hand's own blocks are not another's. -/
def HFar (Fr : Nat → Prop) (hb : Nat) (ov wv : Value) : Prop := ¬ Fr hb ∧ (∀ g, ov.ownBlock = some g → ¬ Fr g) ∧ ∀ g, wv.ownBlock = some g → ¬ Fr g

/-- A hand: its tree, what was begun, who has stepped. -/
structure KRep (Fr : Nat → Prop) (w : World) (B hb : Nat) (P : PLay) (ops : List Op3) (went : List Bool) : Prop where
  blk : ∃ ov wv, w.heap[hb]? = some (.cells (handCells P ov wv).toArray 41 (0, 0)) ∧ w.ownsRow B 51 3 ov ops.length (ops.flatMap opCells) ∧ w.ownsRow B 4 1 wv went.length (went.map Value.bool) ∧ HFar Fr hb ov wv
  hB : B ≤ hb
  prog : PRep Fr w B P
  len : ops.length = P.procs.length
  wlen : went.length = ops.length

theorem KRep.below {w w' : World} {B hb : Nat} {P : PLay} {ops : List Op3} {went : List Bool} (h : KRep Fr w B hb P ops went) (hw : Below w.heap.size w w') : KRep Fr w' B hb P ops went := by
  obtain ⟨ov, wv, a, b, d, f⟩ := h.blk
  exact ⟨⟨ov, wv, by rw [hw.block _ (Array.getElem?_eq_some_iff.1 a).1]; exact a, ownsRow_below b hw (Nat.le_refl _), ownsRow_below d hw (Nat.le_refl _), f⟩, h.hB, h.prog.below hw, h.len, h.wlen⟩

theorem KRep.t {w : World} {B hb : Nat} {P : PLay} {ops : List Op3} {went : List Bool} (h : KRep Fr w B hb P ops went) : w.cell? ⟨hb, 0, none⟩ = some (.pointer (some ⟨P.tb, 0, none⟩)) := by
  obtain ⟨ov, wv, a, _⟩ := h.blk
  rw [(nb_facts a).1 0]
  rfl

/-- What is told of process n. -/
def toldP (P : PLay) (n : Int) : Int × Int × Int :=
  if 0 ≤ n ∧ n < P.procs.length then ((P.procs.getD n.toNat zeroPP).phase, (P.procs.getD n.toNat zeroPP).node, (P.procs.getD n.toNat zeroPP).val) else (0, 0, 0)

theorem pprocV_told (P : PLay) (n : Int) : pprocV P n = .tuple #[.agg #[I (toldP P n).1, I (toldP P n).2.1, I (toldP P n).2.2], I (if 0 ≤ n ∧ n < P.procs.length then 0 else 5)] := by
  unfold pprocV toldP
  by_cases h : 0 ≤ n ∧ n < P.procs.length
  · rw [if_pos h, if_pos h, if_pos h]
  · rw [if_neg h, if_neg h, if_neg h]

set_option maxHeartbeats 2000000 in
theorem kat_c {w : World} {B hb : Nat} {P : PLay} {ops : List Op3} {went : List Bool} (h : KRep Fr w B hb P ops went) (n : Int) :
    Calls Try.prog 16 #[.pointer (some ⟨hb, 0, none⟩), I n] w fun e w' => e = .returned (.agg #[I (toldP P n).1, I (toldP P n).2.1, I (toldP P n).2.2]) ∧ Below w.heap.size w w' := by
  have c0 := h.t
  have l0 := cell_lt c0
  have hp := fun W (hw : Below w.heap.size w W) => pproc_c (h.prog.below hw) n
  rw [pprocV_told] at hp
  generalize toldP P n = q at *
  obtain ⟨a, b, d⟩ := q
  simp only at *
  generalize (if 0 ≤ n ∧ n < (P.procs.length : Int) then (0 : Int) else 5) = er at *
  replace hp : Hid _ := hp
  clear h
  go_enter Try.func16, Try.ntmps16
  go_wp2_with fail
  have hba : Below w.heap.size w (w.alloc (.cells #[I 0, I 0, I 0] 48)) := (Below.refl _ _).alloc (Nat.le_refl _) _
  refine Calls.mono (hp.out _ hba) ?_
  rintro e w1 ⟨rfl, hb1⟩
  have nx : w1.heap[w.heap.size]? = some (.cells #[I 0, I 0, I 0] 48 (0, 0)) := (hb1.block _ (by simp)).trans (nb_alloc _ _ _)
  have hb2 : Below w.heap.size w w1 := hba.trans (hb1.mono (by simp))
  obtain ⟨x1, x2⟩ := nb_facts nx
  have l1 := (Array.getElem?_eq_some_iff.1 nx).1
  have hb3 := ((hb2.setCell (p := ⟨w.heap.size, 0, none⟩) (Nat.le_refl _) (I a)).setCell (p := ⟨w.heap.size, 1, none⟩) (Nat.le_refl _) (I b)).setCell (p := ⟨w.heap.size, 2, none⟩) (Nat.le_refl _) (I d)
  have HB : Hid _ := hb3.alloc hb3.size (.cells #[I a, I b, I d] 48)
  clear hb1 hb2 hba nx hb3
  go_wp2
  exact bodyPost_ret (v := .agg #[I a, I b, I d]) (by simp [results, Try.results16, go_sem, x1, l1]) rfl ⟨rfl, HB.out⟩

set_option maxHeartbeats 2000000 in
theorem klive_c {w : World} {B hb : Nat} {P : PLay} {ops : List Op3} {went : List Bool} (h : KRep Fr w B hb P ops went) :
    Calls Try.prog 15 #[.pointer (some ⟨hb, 0, none⟩)] w fun e w' => e = .returned (I (pliveL P.procs)) ∧ Below w.heap.size w w' := by
  have hat := fun W (hw : Below w.heap.size w W) n => kat_c (h.below hw) n
  obtain ⟨ov, wv, hblk, hro, _⟩ := h.blk
  obtain ⟨ao, cap, e1, q1, q2, q3, _⟩ := ownsRow_cells hro
  have c9 : ∀ W, Below w.heap.size w W → W.cell? ⟨hb, 9, none⟩ = some (.slice ao ops.length cap) := by
    intro W hw
    rw [hw.cell (p := ⟨hb, 9, none⟩) (Array.getElem?_eq_some_iff.1 hblk).1, (nb_facts hblk).1 9, ← e1]
    rfl
  have htold : ∀ k : Nat, k < P.procs.length → (toldP P k).1 = (P.procs.getD k zeroPP).phase := by
    intro k hk
    unfold toldP
    rw [if_pos ⟨by omega, by omega⟩, Int.toNat_natCast]
  have hlen := h.len
  unfold maxLen at q2 q3
  replace hat : Hid _ := hat
  have HC : Hid _ := c9
  have HTD : Hid _ := htold
  clear h hblk hro e1 c9 htold
  go_enter Try.func15, Try.ntmps15
  go_wp2_with fail
  go_loopw [3, 4, 5] (fun nn pp _ wr => ∃ k : Nat, k ≤ P.procs.length ∧ nn = .int .i64 (pliveL (P.procs.take k)) ∧ pp = .int .i64 k ∧ Below w.heap.size w wr) (fun _ pp _ _ => P.procs.length - (intOf pp).toNat)
  case atStart => exact ⟨0, Nat.zero_le _, rfl, rfl, Below.refl _ _⟩
  case round =>
    obtain ⟨k, hk, rfl, rfl, hbr⟩ := hrel
    have d9 := HC.out _ hbr
    have hle := pliveL_le (P.procs.take k)
    have hle2 : (P.procs.take k).length ≤ k := List.length_take_le _ _
    by_cases hlt : k < P.procs.length
    · have hts := take_succ_get P.procs k hlt
      have HT : Hid (pliveL (P.procs.take (k + 1)) = pliveL (P.procs.take k) + if (P.procs[k]).phase = 20 then 0 else 1) := by show _ = _; rw [hts, pliveL_append]; simp [pliveL]
      have htd := HTD.out k hlt
      have hg : P.procs.getD k zeroPP = P.procs[k] := by simp [List.getD_eq_getElem?_getD, List.getElem?_eq_getElem hlt]
      rw [hg] at htd
      have ha := fun W hw => hat.out W hw (k : Int)
      replace ha : Hid _ := ha
      rw [htd] at ha
      clear hts htd hg
      generalize (P.procs[k]).phase = ph at *
      have hkl : (k : Int) < (ops.length : Int) := by omega
      go_wp2_with fail
      refine Calls.mono (ha.out _ hbr) ?_
      rintro e w1 ⟨rfl, hb1⟩
      have hb2 : Below w.heap.size w w1 := hbr.trans (hb1.mono hbr.size)
      clear hb1 ha hat
      by_cases hh : ph = 20
      · have b1 : (ph != 20) = false := by simp [hh]
        have HC2 : Hid (pliveL (P.procs.take (k + 1)) = pliveL (P.procs.take k)) := by show _ = _; rw [HT.out, if_pos hh]; rfl
        clear HT hh
        go_wp2
        go_roundw
        case rel => exact ⟨k + 1, by omega, int_of (by rw [HC2.out]), by go_num, hb2.alloc hb2.size _⟩
        case measure => simp [intOf]; omega
      · have b1 : (ph != 20) = true := by simp [hh]
        have HC2 : Hid (pliveL (P.procs.take (k + 1)) = pliveL (P.procs.take k) + 1) := by show _ = _; rw [HT.out, if_neg hh]
        clear HT hh
        go_wp2
        go_roundw
        case rel => exact ⟨k + 1, by omega, int_of (by rw [HC2.out]; omega), by go_num, hb2.alloc hb2.size _⟩
        case measure => simp [intOf]; omega
    · have HC2 : Hid (pliveL P.procs = pliveL (P.procs.take k)) := by show _ = _; rw [List.take_of_length_le (by omega)]
      have hge : (ops.length : Int) ≤ (k : Int) := by omega
      have hd : decide ((k : Int) < (ops.length : Int)) = false := by simp; omega
      go_wp2
      go_ret
      exact ⟨by rw [HC2.out]; rfl, hbr⟩

end Go.Proofs.Ytjnmpejcegmkhab

namespace Go.Proofs.Ytjnmpejcegmkhab
open Go.RowKit
variable {Fr : Nat → Prop}

/-- Where v stands in a list of numbers; -1: nowhere. -/
def findN (v : Int) : List Int → Nat → Int
  | [], _ => -1
  | x :: r, i => if x = v then (i : Int) else findN v r (i + 1)

theorem NodesRep.num_at {w : World} {b : Nat} {x : Value} {l : List (ND × Value × Value)} (h : NodesRep w b x l) : ∃ ao cap, x = .slice ao l.length cap ∧ l.length ≤ cap ∧ l.length ≤ maxLen ∧ cap ≤ maxLen ∧ ∀ i, (hi : i < l.length) → ∃ g, ao = some ⟨g, 0, none⟩ ∧ w.cell? ⟨g, i * 12, none⟩ = some (I (l[i]).1.num) := by
  obtain ⟨ao, cap, e1, c1, c2, c3, h2⟩ := ownsRow_cells h.row
  refine ⟨ao, cap, e1, c1, c2, c3, fun i hi => ?_⟩
  obtain ⟨g, e, _, c⟩ := h2 (i * 12 + 0) (I (l[i]).1.num) (by
    show (l.flatMap fun y => ndCells y.1 y.2.1 y.2.2)[i * 12 + 0]? = _
    rw [flat_at (fun y : ND × Value × Value => ndCells y.1 y.2.1 y.2.2) 12 (fun _ => rfl) l i hi 0 (by omega)]
    rfl)
  exact ⟨g, e, c⟩

set_option maxHeartbeats 2000000 in
theorem find_c {w : World} {b : Nat} {x : Value} {l : List (ND × Value × Value)} (h : NodesRep w b x l) (v : Int) :
    Calls Try.prog 36 #[x, I v] w fun e w' => e = .returned (I (findN v (l.map fun y => y.1.num) 0)) ∧ w' = w := by
  obtain ⟨ao, cap, rfl, c1, c2, c3, hc⟩ := h.num_at
  unfold maxLen at c2 c3
  clear h
  go_enter Try.func36, Try.ntmps36
  go_wp2_with fail
  go_loop [5] (fun i => ∃ k : Nat, k ≤ l.length ∧ i = .int .i64 k ∧ findN v (l.map fun y => y.1.num) 0 = findN v ((l.drop k).map fun y => y.1.num) k) (fun i => l.length - (intOf i).toNat)
  case atStart => exact ⟨0, Nat.zero_le _, rfl, rfl⟩
  case round =>
    obtain ⟨k, hk, rfl, hno⟩ := hrel
    have HNO : Hid _ := hno
    clear hno
    by_cases hlt : k < l.length
    · obtain ⟨g, rfl, c⟩ := hc k hlt
      have hdr : Hid ((l.drop k).map (fun y => y.1.num) = (l[k]).1.num :: (l.drop (k + 1)).map fun y => y.1.num) := by
        show _ = _
        rw [List.drop_eq_getElem_cons hlt, List.map_cons]
      clear hc
      generalize (l[k]).1.num = m at *
      by_cases hx : m = v
      · have b1 : (m == v) = true := by simp [hx]
        have HT : Hid (findN v (l.map fun y => y.1.num) 0 = (k : Int)) := by show _ = _; rw [HNO.out, hdr.out, findN, if_pos hx]
        clear HNO hdr hx
        go_wp2
        go_ret
        exact ⟨ret_i HT.out.symm, rfl⟩
      · have b1 : (m == v) = false := by simp [hx]
        have HS : Hid (findN v (l.map fun y => y.1.num) 0 = findN v ((l.drop (k + 1)).map fun y => y.1.num) (k + 1)) := by show _ = _; rw [HNO.out, hdr.out, findN, if_neg hx]
        clear HNO hdr hx
        go_wp2
        go_round
        case rel => exact ⟨k + 1, by omega, by go_num, HS.out⟩
        case measure => simp [intOf]; omega
    · have HE : Hid (findN v (l.map fun y => y.1.num) 0 = -1) := by
        show _ = _
        rw [HNO.out, List.drop_of_length_le (by omega)]
        rfl
      have hd : decide ((k : Int) < (l.length : Int)) = false := by simp; omega
      go_wp2
      go_ret
      exact ⟨ret_i HE.out.symm, rfl⟩

end Go.Proofs.Ytjnmpejcegmkhab

namespace Go.Proofs.Ytjnmpejcegmkhab
open Go.RowKit
variable {Fr : Nat → Prop}

theorem deep_more : ∀ v : Fin 64, ∀ k : Fin 7, k.1 ≤ Nat.log2 v.1 → 1 < v.1 / 2 ^ k.1 → k.1 + 1 ≤ Nat.log2 v.1 := by decide +kernel
theorem deep_end : ∀ v : Fin 64, ∀ k : Fin 7, 1 ≤ v.1 → k.1 ≤ Nat.log2 v.1 → ¬ 1 < v.1 / 2 ^ k.1 → k.1 = Nat.log2 v.1 := by decide +kernel
theorem log2_64 : ∀ v : Fin 64, Nat.log2 v.1 ≤ 5 := by decide +kernel
def ordR (v : Nat) : Nat → Nat
  | 0 => 0
  | k + 1 => 2 * ordR v k + v / 2 ^ k % 2
theorem ord_end : ∀ v : Fin 64, 1 ≤ v.1 → ordR v.1 (Nat.log2 v.1) = rank v.1 := by decide +kernel
theorem ord_le : ∀ v : Fin 64, ∀ k : Fin 7, ordR v.1 k.1 ≤ 1000 := by decide +kernel
theorem half_more (v k : Nat) : v / 2 ^ (k + 1) = v / 2 ^ k / 2 := by rw [Nat.pow_succ, Nat.div_div_eq_div_mul]

set_option maxHeartbeats 2000000 in
theorem deep_c (v : Nat) (h1 : 1 ≤ v) (h64 : v < 64) (w : World) : Calls Try.prog 34 #[I v] w fun e w' => e = .returned (I (Nat.log2 v)) ∧ w' = w := by
  have HM : Hid (∀ k, k ≤ 6 → k ≤ Nat.log2 v → 1 < v / 2 ^ k → k + 1 ≤ Nat.log2 v) := fun k hk a b => deep_more ⟨v, h64⟩ ⟨k, by omega⟩ a b
  have HE : Hid (∀ k, k ≤ 6 → k ≤ Nat.log2 v → ¬ 1 < v / 2 ^ k → k = Nat.log2 v) := fun k hk a b => deep_end ⟨v, h64⟩ ⟨k, by omega⟩ h1 a b
  have h5 := log2_64 ⟨v, h64⟩
  simp only at h5
  generalize Nat.log2 v = lg at *
  have HH : Hid (∀ k, v / 2 ^ (k + 1) = v / 2 ^ k / 2) := fun k => half_more v k
  have HV : Hid (∀ k, v / 2 ^ k ≤ 63) := fun k => Nat.le_trans (Nat.div_le_self _ _) (by omega)
  go_enter Try.func34, Try.ntmps34
  go_wp2_with fail
  go_loop [0, 3] (fun x d => ∃ k : Nat, k ≤ lg ∧ x = .int .i64 ((v / 2 ^ k : Nat) : Int) ∧ d = .int .i64 k) (fun x d => lg - (intOf d).toNat)
  case atStart => exact ⟨0, Nat.zero_le _, by simp, rfl⟩
  case round =>
    obtain ⟨k, hk, rfl, rfl⟩ := hrel
    have hm := HM.out k (by omega) hk
    have he := HE.out k (by omega) hk
    have hh : Hid _ := HH.out k
    have hv := HV.out k
    generalize v / 2 ^ k = x at *
    by_cases hx : 1 < x
    · have hk1 := hm hx
      have bx : decide ((1 : Int) < (x : Int)) = true := by simp; omega
      clear hm he HM HE HH HV
      go_wp2
      go_round
      case rel => exact ⟨k + 1, hk1, by rw [hh.out]; go_num, by go_num⟩
      case measure => simp [intOf]; omega
    · have hk1 := he hx
      have bx : decide ((1 : Int) < (x : Int)) = false := by simp; omega
      clear hm he HM HE HH HV
      subst hk1
      go_wp2
      go_ret
      exact ⟨rfl, rfl⟩

set_option maxHeartbeats 2000000 in
theorem order_c (v : Nat) (h1 : 1 ≤ v) (h64 : v < 64) (w : World) : Calls Try.prog 35 #[I v] w fun e w' => e = .returned (I (rank v)) ∧ w' = w := by
  have HM : Hid (∀ k, k ≤ 6 → k ≤ Nat.log2 v → 1 < v / 2 ^ k → k + 1 ≤ Nat.log2 v) := fun k hk a b => deep_more ⟨v, h64⟩ ⟨k, by omega⟩ a b
  have HE : Hid (∀ k, k ≤ 6 → k ≤ Nat.log2 v → ¬ 1 < v / 2 ^ k → k = Nat.log2 v) := fun k hk a b => deep_end ⟨v, h64⟩ ⟨k, by omega⟩ h1 a b
  have HR : Hid (rank v = ordR v (Nat.log2 v)) := (ord_end ⟨v, h64⟩ h1).symm
  have HO : Hid (∀ k, k ≤ 6 → ordR v k ≤ 1000) := fun k hk => ord_le ⟨v, h64⟩ ⟨k, by omega⟩
  have h5 := log2_64 ⟨v, h64⟩
  simp only at h5
  generalize Nat.log2 v = lg at *
  have HH : Hid (∀ k, v / 2 ^ (k + 1) = v / 2 ^ k / 2 ∧ ordR v (k + 1) = 2 * ordR v k + v / 2 ^ k % 2) := fun k => ⟨half_more v k, rfl⟩
  have HV : Hid (∀ k, v / 2 ^ k ≤ 63) := fun k => Nat.le_trans (Nat.div_le_self _ _) (by omega)
  go_enter Try.func35, Try.ntmps35
  go_wp2_with fail
  go_loop [0, 3] (fun x d => ∃ k : Nat, k ≤ lg ∧ x = .int .i64 ((v / 2 ^ k : Nat) : Int) ∧ d = .int .i64 ((ordR v k : Nat) : Int)) (fun x d => (intOf x).toNat)
  case atStart => exact ⟨0, Nat.zero_le _, by simp, rfl⟩
  case round =>
    obtain ⟨k, hk, rfl, rfl⟩ := hrel
    have hm := HM.out k (by omega) hk
    have he := HE.out k (by omega) hk
    have hh : Hid _ := HH.out k
    have hv := HV.out k
    have ho := HO.out k (by omega)
    have HRK : Hid (k = lg → rank v = ordR v k) := by
      intro e
      rw [e]
      exact HR.out
    generalize v / 2 ^ k = x at *
    generalize ordR v k = r at *
    by_cases hx : 1 < x
    · have hk1 := hm hx
      have bx : decide ((1 : Int) < (x : Int)) = true := by simp; omega
      clear hm he HM HE HH HV HR HO HRK
      go_wp2
      go_round
      case rel => exact ⟨k + 1, hk1, by rw [hh.out.1]; go_num, by rw [hh.out.2]; go_num⟩
      case measure => simp [intOf]; omega
    · have hk1 := he hx
      have hrk := HRK.out hk1
      have bx : decide ((1 : Int) < (x : Int)) = false := by simp; omega
      clear hm he HM HE HH HV HR HO HRK
      replace hrk : Hid _ := hrk
      go_wp2
      go_ret
      exact ⟨by rw [hrk.out]; rfl, rfl⟩

end Go.Proofs.Ytjnmpejcegmkhab

namespace Go.Proofs.Ytjnmpejcegmkhab
open Go.RowKit
variable {Fr : Nat → Prop}

def innN : List ND → Nat
  | [] => 0
  | d :: r => (if d.inner then 1 else 0) + innN r
theorem innN_app (a b : List ND) : innN (a ++ b) = innN a + innN b := by
  induction a with
  | nil => simp [innN]
  | cons x a ih => simp [innN, ih]; omega

/-- A list of nodes that is a tree, of depth D at most. -/
structure ShapedL (D : Nat) (l : List ND) : Prop where
  d4 : D ≤ 4
  ne : 0 < l.length
  len : l.length ≤ 64
  root : ∀ h : 0 < l.length, (l[0]).num = 1
  each : ∀ i, (hi : i < l.length) → ∃ v : Nat, (l[i]).num = (v : Int) ∧ 1 ≤ v ∧ v < 2 * 2 ^ D ∧ (l[i]).depth = (Nat.log2 v : Int) ∧ (l[i]).rank = (rank v : Int)
  rise : ∀ i, (hi : i + 1 < l.length) → (l[i]).num < (l[i + 1]).num
  kids : ∀ i, (hi : i < l.length) → (l[i]).inner = true → 0 ≤ findN (2 * (l[i]).num) (l.map fun d => d.num) 0 ∧ 0 ≤ findN (2 * (l[i]).num + 1) (l.map fun d => d.num) 0
  many : 1 + 2 * innN l = l.length

set_option maxHeartbeats 8000000 in
set_option maxRecDepth 100000 in
theorem shaped_c {w : World} {hb b : Nat} {x : Value} {l : List (ND × Value × Value)} (D : Nat) (hD : w.cell? ⟨hb, 2, none⟩ = some (I D)) (h : NodesRep w b x l) (hs : ShapedL D (l.map fun y => y.1)) :
    Calls Try.prog 14 #[.pointer (some ⟨hb, 0, none⟩), x] w fun e w' => e = .returned (.bool true) ∧ Below w.heap.size w w' := by
  have l0 := cell_lt hD
  have HF : Hid (∀ W, Below w.heap.size w W → ∀ v, Calls Try.prog 36 #[x, I v] W fun e w' => e = .returned (I (findN v (l.map fun y => y.1.num) 0)) ∧ w' = W) := fun W hW v => find_c (h.below hW (Nat.le_refl _)) v
  have hnum : (l.map fun y => y.1).map (fun d => d.num) = l.map fun y => y.1.num := by simp [List.map_map, Function.comp_def]
  have hlen : (l.map fun y => y.1).length = l.length := by simp
  have HN : Hid (∀ k, (hk : k < l.length) → ∃ g, (∀ ao n c, x = .slice ao n c → ao = some ⟨g, 0, none⟩) ∧ g < w.heap.size ∧ ∀ j, j < 12 → w.cell? ⟨g, k * 12 + j, none⟩ = (ndCells (l[k]).1 (l[k]).2.1 (l[k]).2.2)[j]?) := fun k hk => nodes_at h k hk
  have HV : Hid (∀ k, (hk : k < l.length) → (∃ ao n c, (l[k]).2.1 = .slice ao n c) ∧ (∃ ao n c, (l[k]).2.2 = .slice ao n c)) := by
    intro k hk
    obtain ⟨ao1, c1, e1, _⟩ := row_cells (h.waiting l[k] (List.getElem_mem _))
    obtain ⟨ao2, c2, e2, _⟩ := row_cells (h.items l[k] (List.getElem_mem _))
    exact ⟨⟨_, _, _, e1⟩, ⟨_, _, _, e2⟩⟩
  obtain ⟨ao, cap, ex, c1, c2, c3, _⟩ := ownsRow_cells h.row
  have hl64 : l.length ≤ 64 := by have := hs.len; omega
  have hl1 : 0 < l.length := by have := hs.ne; omega
  have HE : Hid (∀ k, (hk : k < l.length) → ∃ v : Nat, (l[k]).1.num = (v : Int) ∧ 1 ≤ v ∧ v < 2 * 2 ^ D ∧ (l[k]).1.depth = (Nat.log2 v : Int) ∧ (l[k]).1.rank = (rank v : Int)) := by
    intro k hk
    have := hs.each k (by rw [hlen]; exact hk)
    simpa using this
  have HR : Hid (∀ k, (hk : k + 1 < l.length) → (l[k]).1.num < (l[k + 1]).1.num) := by
    intro k hk
    have := hs.rise k (by rw [hlen]; exact hk)
    simpa using this
  have HK : Hid (∀ k, (hk : k < l.length) → (l[k]).1.inner = true → 0 ≤ findN (2 * (l[k]).1.num) (l.map fun y => y.1.num) 0 ∧ 0 ≤ findN (2 * (l[k]).1.num + 1) (l.map fun y => y.1.num) 0) := by
    intro k hk hi
    have := hs.kids k (by rw [hlen]; exact hk) (by simpa using hi)
    rw [hnum] at this
    simpa using this
  have HM : Hid (∀ k, (hk : k < l.length) → innN ((l.map fun y => y.1).take (k + 1)) = innN ((l.map fun y => y.1).take k) + (if (l[k]).1.inner then 1 else 0)) := by
    intro k hk
    rw [take_succ_get _ k (by rw [hlen]; exact hk), innN_app]
    simp [innN]
  have HMA : Hid (1 + 2 * innN ((l.map fun y => y.1).take l.length) = l.length) := by
    have := hs.many
    rw [← hlen, List.take_length]
    exact this
  have HML : Hid (∀ k, innN ((l.map fun y => y.1).take k) ≤ 64) := by
    intro k
    have key : ∀ a : List ND, innN a ≤ a.length := by
      intro a
      induction a with
      | nil => simp [innN]
      | cons d r ih => simp only [innN, List.length_cons]; split <;> omega
    have := key ((l.map fun y => y.1).take k)
    have h2 := List.length_take_le k (l.map fun y => y.1)
    have h3 := List.length_take_le' k (l.map fun y => y.1)
    omega
  have hroot : ∃ g, ao = some ⟨g, 0, none⟩ ∧ w.cell? ⟨g, 0, none⟩ = some (I 1) := by
    obtain ⟨g, e, lg, f⟩ := HN.out 0 hl1
    have e' := e _ _ _ ex
    refine ⟨g, e', ?_⟩
    have := f 0 (by omega)
    have hr := hs.root (by rw [hlen]; exact hl1)
    simp only [List.getElem_map] at hr
    simp only [ndCells, hr] at this
    simpa using this
  have d4 := hs.d4
  have h2D : 2 ^ D ≤ 2 ^ 4 := Nat.pow_le_pow_right (by omega) d4
  have HSH : Hid (wrap64 (2 * 2 ^ D) = ((2 * 2 ^ D : Nat) : Int)) := by
    show _ = _
    have e : (2 * 2 ^ D : Int) = ((2 * 2 ^ D : Nat) : Int) := by push_cast; rfl
    rw [e]
    generalize (2 : Nat) ^ D = z at *
    exact IntWalk.wrap64_in _ ⟨by omega, by omega⟩
  obtain ⟨g0, rfl, hr0⟩ := hroot
  have lg0 := cell_lt hr0
  unfold maxLen at c2 c3
  clear hs h hnum hlen
  subst ex
  go_enter Try.func14, Try.ntmps14
  have bn : ((l.length : Int) == 0) = false := by rw [beq_eq_false_iff_ne]; omega
  go_wp2_with fail
  go_loopw [5, 6, 7, 8, 9] (fun mm ii _ _ _ wr => ∃ k : Nat, k ≤ l.length ∧ mm = .int .i64 ((1 + 2 * innN ((l.map fun y => y.1).take k) : Nat) : Int) ∧ ii = .int .i64 k ∧ Below w.heap.size w wr) (fun _ ii _ _ _ _ => l.length - (intOf ii).toNat)
  case atStart => exact ⟨0, Nat.zero_le _, by simp [innN], rfl, Below.refl _ _⟩
  case round =>
    obtain ⟨k, hk, rfl, rfl, hbr⟩ := hrel
    have hml := HML.out k
    by_cases hlt : k < l.length
    · obtain ⟨g, e1, l1, f⟩ := HN.out k hlt
      have e2 := e1 _ _ _ rfl
      obtain rfl : g0 = g := by simpa using e2
      obtain ⟨v, ev, hv1, hvD, edp, erk⟩ := HE.out k hlt
      have hks := HK.out k hlt
      have hm := HM.out k hlt
      obtain ⟨⟨w1, w2, w3, ew⟩, ⟨i1, i2, i3, ei⟩⟩ := HV.out k hlt
      have hprev : k = 0 ∨ ∃ (k' : Nat) (pv : Int), k = k' + 1 ∧ pv < (v : Int) ∧ w.cell? ⟨g0, k' * 12, none⟩ = some (I pv) := by
        by_cases e0 : k = 0
        · exact Or.inl e0
        · right
          obtain ⟨k', rfl⟩ : ∃ k', k = k' + 1 := ⟨k - 1, by omega⟩
          obtain ⟨g', e1', _, f'⟩ := HN.out k' (by omega)
          have e2' := e1' _ _ _ rfl
          obtain rfl : g0 = g' := by simpa using e2'
          have hr := HR.out k' hlt
          rw [ev] at hr
          exact ⟨k', _, rfl, hr, by have := f' 0 (by omega); simpa [ndCells] using this⟩
      generalize l[k] = y at *
      obtain ⟨d, wv, iv⟩ := y
      obtain ⟨num, dep, rk, inner, sh, ins, tog, wid, wt, pu, ge, its⟩ := d
      simp only at ev edp erk ew ei hks hm
      subst ev edp erk ew ei
      have F := fun j hj => (hbr.cell (p := ⟨g0, k * 12 + j, none⟩) l1).trans (f j hj)
      have p0 := F 0 (by omega); have p1 := F 1 (by omega); have p2 := F 2 (by omega); have p3 := F 3 (by omega); have p4 := F 4 (by omega); have p5 := F 5 (by omega)
      have p6 := F 6 (by omega); have p7 := F 7 (by omega); have p8 := F 8 (by omega); have p9 := F 9 (by omega); have p10 := F 10 (by omega); have p11 := F 11 (by omega)
      simp only [ndCells, Nat.add_zero] at p0 p1 p2 p3 p4 p5 p6 p7 p8 p9 p10 p11
      have dD := (hbr.cell (p := ⟨hb, 2, none⟩) l0).trans hD
      have hdp := fun W => deep_c v hv1 (by omega) W
      have hor := fun W => order_c v hv1 (by omega) W
      replace hdp : Hid _ := hdp
      replace hor : Hid _ := hor
      have hfd := fun u => HF.out (wr.alloc (.cells #[I v, I (Nat.log2 v), I (rank v), .bool inner, .bool sh, I ins, I tog, I wid, .slice w1 w2 w3, I pu, I ge, .slice i1 i2 i3] 46)) (hbr.alloc hbr.size _) u
      replace hfd : Hid _ := hfd
      replace hks : Hid _ := hks
      replace hm : Hid _ := hm
      have lgr : g0 < wr.heap.size := Nat.lt_of_lt_of_le lg0 hbr.size
      have lhr : hb < wr.heap.size := Nat.lt_of_lt_of_le l0 hbr.size
      clear F f e1 HN HE HK HM HV HR HML HMA hr0
      have hv64 : v < 64 := by omega
      have b1 : decide ((v : Int) < 1) = false := decide_eq_false (by omega)
      have b2 : decide (wrap64 (2 * 2 ^ D) ≤ (v : Int)) = false := by rw [HSH.out]; exact decide_eq_false (by omega)
      have hcell : k = 0 ∨ ∃ (k' : Nat) (pv : Int), k = k' + 1 ∧ decide ((v : Int) ≤ pv) = false ∧ wr.cell? ⟨g0, k' * 12, none⟩ = some (I pv) := by
        rcases hprev with e | ⟨k', pv, e, hpv, hcp⟩
        · exact Or.inl e
        · exact Or.inr ⟨k', pv, e, decide_eq_false (by omega), (hbr.cell (p := ⟨g0, k' * 12, none⟩) lg0).trans hcp⟩
      clear hprev hvD
      generalize Nat.log2 v = lg at *
      generalize rank v = rv at *
      replace hcell : Hid _ := hcell
      go_wp2_with fail
      go_cut [42] (fun s42 wx => s42 = .bool false ∧ ∃ nq, wx = (wr.alloc (.cells #[I v, I lg, I rv, .bool inner, .bool sh, I ins, I tog, I wid, .slice w1 w2 w3, I pu, I ge, .slice i1 i2 i3] 46)).drewN nq)
      case first =>
        rcases hcell.out with rfl | ⟨k', pv, rfl, hpv, hcp⟩
        · go_quiet (fail)
          go_wp2_with fail
          go_meet
          exact ⟨rfl, _, rfl⟩
        · have b0 : decide ((0 : Int) < ((k' + 1 : Nat) : Int)) = true := decide_eq_true (by omega)
          go_quiet (fail)
          go_wp2_with fail
          go_meet
          exact ⟨rfl, _, rfl⟩
      case rest =>
        obtain ⟨rfl, nq, rfl⟩ := hcut
        have hnb : ((wr.alloc (.cells #[I v, I lg, I rv, .bool inner, .bool sh, I ins, I tog, I wid, .slice w1 w2 w3, I pu, I ge, .slice i1 i2 i3] 46)).drewN nq).heap[wr.heap.size]? = some (.cells #[I v, I lg, I rv, .bool inner, .bool sh, I ins, I tog, I wid, .slice w1 w2 w3, I pu, I ge, .slice i1 i2 i3] 46 (0, 0)) := nb_alloc _ _ _
        have hbx : Below w.heap.size w ((wr.alloc (.cells #[I v, I lg, I rv, .bool inner, .bool sh, I ins, I tog, I wid, .slice w1 w2 w3, I pu, I ge, .slice i1 i2 i3] 46)).drewN nq) := Below.drewN' (hbr.alloc hbr.size _) nq
        have dDx := (hbx.cell (p := ⟨hb, 2, none⟩) l0).trans hD
        have hfd2 := fun W (hW : Below w.heap.size w W) u => HF.out W hW u
        replace hfd2 : Hid _ := hfd2
        have lwx : wr.heap.size < ((wr.alloc (.cells #[I v, I lg, I rv, .bool inner, .bool sh, I ins, I tog, I wid, .slice w1 w2 w3, I pu, I ge, .slice i1 i2 i3] 46)).drewN nq).heap.size := (Array.getElem?_eq_some_iff.1 hnb).1
        generalize (wr.alloc (.cells #[I v, I lg, I rv, .bool inner, .bool sh, I ins, I tog, I wid, .slice w1 w2 w3, I pu, I ge, .slice i1 i2 i3] 46)).drewN nq = wx at *
        obtain ⟨nx1, _⟩ := nb_facts hnb
        have lhx : hb < wx.heap.size := cell_lt dDx
        clear hfd p0 p1 p2 p3 p4 p5 p6 p7 p8 p9 p10 p11 hcell dD HF HSH
        go_wp2_with fail
        go_quiet (first | (go_at_call 34; exact Calls.quiet_of_same (hdp.out _)) | (go_at_call 35; exact Calls.quiet_of_same (hor.out _)))
        cases inner
        · have hm0 := hm.out
          simp only [Bool.false_eq_true, if_false, Nat.add_zero] at hm0
          replace hm0 : Hid _ := hm0
          clear hm
          go_wp2_with fail
          go_roundw
          case rel => exact ⟨k + 1, by omega, by rw [hm0.out]; go_num, by go_num, Below.drewN' hbx _⟩
          case measure => simp [intOf]; omega
        · have hm0 := hm.out
          simp only [if_true] at hm0
          obtain ⟨f1, f2⟩ := hks.out rfl
          replace hm0 : Hid _ := hm0
          clear hm hks
          go_wp2_with fail
          refine Calls.mono (hfd2.out _ (Below.drewN' hbx _) _) ?_
          rintro e w9 ⟨rfl, rfl⟩
          go_wp2_with fail
          refine Calls.mono (hfd2.out _ (Below.drewN' hbx _) _) ?_
          rintro e w9 ⟨rfl, rfl⟩
          generalize findN (2 * (v : Int)) (l.map fun y => y.1.num) 0 = fa at *
          generalize findN (2 * (v : Int) + 1) (l.map fun y => y.1.num) 0 = fb at *
          have g1 : decide (fa < 0) = false := decide_eq_false (by omega)
          have g2 : decide (fb < 0) = false := decide_eq_false (by omega)
          clear hfd2
          go_wp2_with fail
          go_roundw
          case rel => exact ⟨k + 1, by omega, by rw [hm0.out]; go_num, by go_num, Below.drewN' hbx _⟩
          case measure => simp [intOf]; omega
    · have ek : k = l.length := by omega
      subst ek
      have hma := HMA.out
      have bl : decide ((l.length : Int) < (l.length : Int)) = false := by simp
      have be : ((1 + 2 * (innN ((l.map fun y => y.1).take l.length) : Int)) == (l.length : Int)) = true := by rw [beq_iff_eq]; omega
      clear HN HE HK HM HV HR HML HMA hr0 hma
      go_wp2
      go_ret
      exact ⟨rfl, hbr⟩

end Go.Proofs.Ytjnmpejcegmkhab

namespace Go.Proofs.Ytjnmpejcegmkhab
open Go.RowKit
set_option linter.unusedVariables false
variable {Fr : Nat → Prop}

/-- Nothing but block b has turned; it holds cs now. -/
structure PutB (w w' : World) (b : Nat) (cs : Array Value) (T : TypeId) : Prop where
  os : w'.os = w.os
  tape : w'.tape = w.tape
  output : w'.output = w.output
  size : w'.heap.size = w.heap.size
  blk : w'.heap[b]? = some (.cells cs T (0, 0))
  other : ∀ k, k ≠ b → w'.heap[k]? = w.heap[k]?

abbrev Lay.setP (L : Lay) (i : Nat) (p : Pr) : Lay := { L with procs := L.procs.set i ((L.procs.getD i (0, p)).1, p) }

def upPr (p : Pr) : Pr := { p with node := p.node / 2, phase := if p.node / 2 = 0 then 20 else 19 }

def settledPr (p q : Pr) (b : Int) : Pr :=
  if p.kind = q.kind then { p with node := 2 * p.node + b, phase := 0 }
  else if p.kind = 2 then { p with val := q.oval, phase := 19 } else { p with phase := 19 }

theorem tmod_twice (x : Int) (m : Int) (hm : 0 < m) : (x.tmod m + m).tmod m = x % m := by
  have h1 : -m < x.tmod m := by
    rcases Int.le_total 0 x with hx | hx
    · have := Int.tmod_nonneg m hx; omega
    · have h2 : (-x).tmod m = -(x.tmod m) := Int.neg_tmod x m
      have h3 := Int.tmod_lt_of_pos (-x) hm
      omega
  rw [Int.tmod_eq_emod_of_nonneg (by omega), Int.add_emod_right]
  rcases Int.le_total 0 x with hx | hx
  · rw [Int.tmod_eq_emod_of_nonneg hx, Int.emod_emod]
  · have h2 := Int.tmod_def x m
    have : x.tmod m = x + m * (-(x.tdiv m)) := by rw [Int.mul_neg]; omega
    rw [this, Int.add_mul_emod_self_left]

/-- The cells of process i, as the walks ask for them. -/
structure ProcAt (w : World) (L : Lay) (i : Nat) (pb : Nat) (p : Pr) : Prop where
  hi : i < L.procs.length
  blk : w.heap[pb]? = some (.cells (prCells p) 1000002 (0, 0))
  eb : (L.procs.getD i (0, p)).1 = pb
  ep : (L.procs.getD i (0, p)).2 = p

def waitPr (p : Pr) : Pr := if 0 ≤ p.met then { p with phase := 7 } else if 0 < p.pat then { p with pat := p.pat - 1 } else { p with phase := 10 }

/-- Between 1 and the configuration's width. -/
def clip (cw z : Int) : Int := if (if cw < z then cw else z) < 1 then 1 else (if cw < z then cw else z)

/-- Does who is kept in mind still wait in the slot, and was not met? -/
def meets (L : Lay) (p q : Pr) : Bool := decide (waitsL p.node p.slot L.procs 0 = p.mind) && decide (q.phase = 6) && decide (q.met < 0)

/-- Where an Inc, a Put or a Get goes from Look. -/
def lookPr (L : Lay) (v : Nat) (p : Pr) : Pr := { p with phase := if shutL p.node L.procs = true then 2 else if formH (L.hist v) = 1 then 3 else 12 }

theorem Lay.setP_self {L : Lay} {i : Nat} (hi : i < L.procs.length) (a b : Pr) : (L.setP i a).setP i b = L.setP i b := by
  unfold Lay.setP
  simp only [List.getD_eq_getElem?_getD]
  congr 1
  rw [List.set_set, List.getElem?_set_self hi, List.getElem?_eq_getElem hi]
  rfl

/-- Something has happened at node v. -/
abbrev Lay.hap (L : Lay) (v : Nat) (x : Value) (ev : Ev) (iv : Value) : Lay := { L with past := L.past.set v (x, (ev, iv) :: L.hist v) }

/-- How many items the leaf v can hold. -/
def roomOf (c : Conf) (v : Nat) : Int := c.slots * 2 ^ (c.depth.toNat - Nat.log2 v)

/-- Whether what is to be stored under the ticket has room. -/
def roomyH (c : Conf) (v : Nat) (l : Hist) (t : Int) : Bool := decide (t < roomOf c v) || takenH l (t - roomOf c v)

/-- One step more is counted. -/
abbrev incPr (p : Pr) : Pr := { p with steps := wrap64 (p.steps + 1) }

def togH (l : Hist) : Int := ((fromH l).1.n + manyH 4 (-1) l) % 2

end Go.Proofs.Ytjnmpejcegmkhab
