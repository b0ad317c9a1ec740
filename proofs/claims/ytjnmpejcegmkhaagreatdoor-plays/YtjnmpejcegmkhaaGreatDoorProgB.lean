/- Contracts of the program's changes, newProcess, hasOp and live. Contracts of the program's newProcess and Spawn. The contract of the program's Spawn. No statement of the seat is proved here. -/
import Derived.Test.YtjnmpejcegmkhaaGreatDoorRefB
import Derived.Test.YtjnmpejcegmkhaaGreatDoorProgA
import Derived.Deep.RegionWith
import Derived.Deep.RegionLaw
import Derived.Deep.AppendLies
import Derived.Deep.QuietTactic
import Derived.BigQuiet
namespace Go.Proofs.YtjnmpejcegmkhaaGreatDoor
open Go.RowKit

set_option maxHeartbeats 1000000 in
theorem pchanges_c (o : Op3) (w : World) : Calls Tryz.prog 91 #[opV o] w fun e w' => e = .returned (.bool (isChange o)) ∧ Below w.heap.size w w' := by
  unfold opV
  have HI : Hid (isChange o = (decide (o.kind = 3) || decide (o.kind = 4))) := rfl
  generalize isChange o = b at *
  by_cases h3 : o.kind = 3
  · have b1 : (o.kind == 3) = true := by simp [h3]
    have hb : b = true := by rw [HI.out]; simp [h3]
    subst hb
    clear h3 HI
    go_enter Tryz.func91, Tryz.ntmps91
    go_wp2
    go_ret
    exact ⟨rfl, (Below.refl _ _).alloc (Nat.le_refl _) _⟩
  · have b1 : (o.kind == 3) = false := by simp [h3]
    by_cases h4 : o.kind = 4
    · have b2 : (o.kind == 4) = true := by simp [h4]
      have hb : b = true := by rw [HI.out]; simp [h4]
      subst hb
      clear h3 h4 HI
      go_enter Tryz.func91, Tryz.ntmps91
      go_wp2
      go_ret
      exact ⟨rfl, (Below.refl _ _).alloc (Nat.le_refl _) _⟩
    · have b2 : (o.kind == 4) = false := by simp [h4]
      have hb : b = false := by rw [HI.out]; simp [h3, h4]
      subst hb
      clear h3 h4 HI
      go_enter Tryz.func91, Tryz.ntmps91
      go_wp2
      go_ret
      exact ⟨rfl, (Below.refl _ _).alloc (Nat.le_refl _) _⟩

def newPP (o : Op3) : PP := ⟨o.kind, o.val, o.node, if isChange o ∧ o.node = 1 then 15 else 0, 1, 0, 0, 0, 0, 0, 0⟩

theorem hasOp_ways (c : Conf) (o : Op3) (h : okOp c o) : ((o.kind == 0) = true ∧ (c.kind == 0) = true) ∨ ((o.kind == 0) = false ∧ (o.kind == 1) = true ∧ (c.kind == 1) = true) ∨ ((o.kind == 0) = false ∧ (o.kind == 1) = false ∧ (o.kind == 2) = true ∧ (c.kind == 1) = true) ∨
    ((o.kind == 0) = false ∧ (o.kind == 1) = false ∧ (o.kind == 2) = false ∧ (o.kind == 3) = true ∧ 1 ≤ o.node ∧ o.node < ((2 ^ c.depth.toNat : Nat) : Int)) ∨
    ((o.kind == 0) = false ∧ (o.kind == 1) = false ∧ (o.kind == 2) = false ∧ (o.kind == 3) = false ∧ (o.kind == 4) = true ∧ 1 ≤ o.node ∧ o.node < ((2 ^ c.depth.toNat : Nat) : Int)) := by
  unfold okOp at h
  simp only [beq_iff_eq, beq_eq_false_iff_ne]
  omega

theorem hasNo_ways (c : Conf) (o : Op3) (h : ¬ okOp c o) : ((o.kind == 0) = true ∧ (c.kind == 0) = false) ∨ ((o.kind == 0) = false ∧ (o.kind == 1) = true ∧ (c.kind == 1) = false) ∨ ((o.kind == 0) = false ∧ (o.kind == 1) = false ∧ (o.kind == 2) = true ∧ (c.kind == 1) = false) ∨
    ((o.kind == 0) = false ∧ (o.kind == 1) = false ∧ (o.kind == 2) = false ∧ (o.kind == 3) = false ∧ (o.kind == 4) = false) ∨
    ((o.kind == 0) = false ∧ (o.kind == 1) = false ∧ (o.kind == 2) = false ∧ (o.kind == 3) = true ∧ decide (1 ≤ o.node) = false) ∨
    ((o.kind == 0) = false ∧ (o.kind == 1) = false ∧ (o.kind == 2) = false ∧ (o.kind == 3) = false ∧ (o.kind == 4) = true ∧ decide (1 ≤ o.node) = false) ∨
    ((o.kind == 0) = false ∧ (o.kind == 1) = false ∧ (o.kind == 2) = false ∧ (o.kind == 3) = true ∧ 1 ≤ o.node ∧ ((2 ^ c.depth.toNat : Nat) : Int) ≤ o.node) ∨
    ((o.kind == 0) = false ∧ (o.kind == 1) = false ∧ (o.kind == 2) = false ∧ (o.kind == 3) = false ∧ (o.kind == 4) = true ∧ 1 ≤ o.node ∧ ((2 ^ c.depth.toNat : Nat) : Int) ≤ o.node) := by
  unfold okOp at h
  simp only [beq_iff_eq, beq_eq_false_iff_ne, decide_eq_false_iff_not]
  omega

set_option maxHeartbeats 4000000 in
theorem hasOp_yes (c : Conf) (o : Op3) (h : okOp c o) (hd0 : 0 ≤ c.depth) (hd4 : c.depth ≤ 4) (w : World) : Calls Tryz.prog 65 #[confV c, opV o] w fun e w' => e = .returned (.bool true) ∧ Below w.heap.size w w' := by
  have hways := hasOp_ways c o h
  obtain ⟨d, hd⟩ := Int.eq_ofNat_of_zero_le hd0
  have hdn : c.depth.toNat = d := by omega
  rw [hdn] at hways
  have hf := fun W => firstOfDepth_c d (by omega) W
  generalize 2 ^ d = P2 at *
  unfold confV opV
  replace hf : Hid _ := hf
  rw [hd]
  clear h hd0 hd4 hdn hd
  rcases hways with ⟨b0, k0⟩ | ⟨b0, b1, k1⟩ | ⟨b0, b1, b2, k1⟩ | ⟨b0, b1, b2, b3, n1, n2⟩ | ⟨b0, b1, b2, b3, b4, n1, n2⟩
  · go_enter Tryz.func65, Tryz.ntmps65
    go_wp2
    go_ret
    exact ⟨rfl, ((Below.refl _ _).alloc (Nat.le_refl _) _).alloc (by simp) _⟩
  · go_enter Tryz.func65, Tryz.ntmps65
    go_wp2
    go_ret
    exact ⟨rfl, ((Below.refl _ _).alloc (Nat.le_refl _) _).alloc (by simp) _⟩
  · go_enter Tryz.func65, Tryz.ntmps65
    go_wp2
    go_ret
    exact ⟨rfl, ((Below.refl _ _).alloc (Nat.le_refl _) _).alloc (by simp) _⟩
  · go_enter Tryz.func65, Tryz.ntmps65
    go_wp2_with fail
    go_quiet ((go_at_call 38; exact Calls.quiet_of_same (hf.out _)))
    go_wp2
    go_ret
    exact ⟨rfl, Below.drewN' (((Below.refl _ _).alloc (Nat.le_refl _) _).alloc (by simp) _) _⟩
  · go_enter Tryz.func65, Tryz.ntmps65
    go_wp2_with fail
    go_quiet ((go_at_call 38; exact Calls.quiet_of_same (hf.out _)))
    go_wp2
    go_ret
    exact ⟨rfl, Below.drewN' (((Below.refl _ _).alloc (Nat.le_refl _) _).alloc (by simp) _) _⟩

set_option maxHeartbeats 4000000 in
theorem hasOp_no (c : Conf) (o : Op3) (h : ¬ okOp c o) (hd0 : 0 ≤ c.depth) (hd4 : c.depth ≤ 4) (w : World) : Calls Tryz.prog 65 #[confV c, opV o] w fun e w' => e = .returned (.bool false) ∧ Below w.heap.size w w' := by
  have hways := hasNo_ways c o h
  obtain ⟨d, hd⟩ := Int.eq_ofNat_of_zero_le hd0
  have hdn : c.depth.toNat = d := by omega
  rw [hdn] at hways
  have hf := fun W => firstOfDepth_c d (by omega) W
  generalize 2 ^ d = P2 at *
  unfold confV opV
  replace hf : Hid _ := hf
  rw [hd]
  clear h hd0 hd4 hdn hd
  rcases hways with ⟨b0, k0⟩ | ⟨b0, b1, k1⟩ | ⟨b0, b1, b2, k1⟩ | ⟨b0, b1, b2, b3, b4⟩ | ⟨b0, b1, b2, b3, n1⟩ | ⟨b0, b1, b2, b3, b4, n1⟩ | ⟨b0, b1, b2, b3, n1, n2⟩ | ⟨b0, b1, b2, b3, b4, n1, n2⟩
  · go_enter Tryz.func65, Tryz.ntmps65
    go_wp2
    go_ret
    exact ⟨rfl, ((Below.refl _ _).alloc (Nat.le_refl _) _).alloc (by simp) _⟩
  · go_enter Tryz.func65, Tryz.ntmps65
    go_wp2
    go_ret
    exact ⟨rfl, ((Below.refl _ _).alloc (Nat.le_refl _) _).alloc (by simp) _⟩
  · go_enter Tryz.func65, Tryz.ntmps65
    go_wp2
    go_ret
    exact ⟨rfl, ((Below.refl _ _).alloc (Nat.le_refl _) _).alloc (by simp) _⟩
  · go_enter Tryz.func65, Tryz.ntmps65
    go_wp2
    go_ret
    exact ⟨rfl, ((Below.refl _ _).alloc (Nat.le_refl _) _).alloc (by simp) _⟩
  · go_enter Tryz.func65, Tryz.ntmps65
    go_wp2_with fail
    go_quiet ((go_at_call 38; exact Calls.quiet_of_same (hf.out _)))
    go_wp2
    go_ret
    exact ⟨rfl, Below.drewN' (((Below.refl _ _).alloc (Nat.le_refl _) _).alloc (by simp) _) _⟩
  · go_enter Tryz.func65, Tryz.ntmps65
    go_wp2_with fail
    go_quiet ((go_at_call 38; exact Calls.quiet_of_same (hf.out _)))
    go_wp2
    go_ret
    exact ⟨rfl, Below.drewN' (((Below.refl _ _).alloc (Nat.le_refl _) _).alloc (by simp) _) _⟩
  · have n2' : decide (o.node < (P2 : Int)) = false := by simp; omega
    go_enter Tryz.func65, Tryz.ntmps65
    go_wp2_with fail
    go_quiet ((go_at_call 38; exact Calls.quiet_of_same (hf.out _)))
    go_wp2
    go_ret
    exact ⟨rfl, Below.drewN' (((Below.refl _ _).alloc (Nat.le_refl _) _).alloc (by simp) _) _⟩
  · have n2' : decide (o.node < (P2 : Int)) = false := by simp; omega
    go_enter Tryz.func65, Tryz.ntmps65
    go_wp2_with fail
    go_quiet ((go_at_call 38; exact Calls.quiet_of_same (hf.out _)))
    go_wp2
    go_ret
    exact ⟨rfl, Below.drewN' (((Below.refl _ _).alloc (Nat.le_refl _) _).alloc (by simp) _) _⟩

def pliveL : List PP → Nat
  | [] => 0
  | p :: r => (if p.phase = 20 then 0 else 1) + pliveL r
theorem pliveL_append (a b : List PP) : pliveL (a ++ b) = pliveL a + pliveL b := by
  induction a with
  | nil => simp [pliveL]
  | cons x a ih => simp [pliveL, ih]; omega
theorem pliveL_le (a : List PP) : pliveL a ≤ a.length := by
  induction a with
  | nil => simp [pliveL]
  | cons x a ih => simp only [pliveL, List.length_cons]; split <;> omega

theorem PRep.pp_at {w : World} {B : Nat} {L : PLay} (h : PRep w B L) : ∃ ao cap, L.pv = .slice ao L.procs.length cap ∧ L.procs.length ≤ cap ∧ L.procs.length ≤ maxLen ∧ cap ≤ maxLen ∧
    ∀ i, (hi : i < L.procs.length) → ∃ g, ao = some ⟨g, 0, none⟩ ∧ ∀ j, j < 11 → w.cell? ⟨g, i * 11 + j, none⟩ = (ppCells L.procs[i])[j]? := by
  obtain ⟨ao, cap, e1, c1, c2, c3, h2⟩ := ownsRow_cells h.prow
  refine ⟨ao, cap, e1, c1, c2, c3, fun i hi => ?_⟩
  have key : ∀ j, j < 11 → ∃ g, ao = some ⟨g, 0, none⟩ ∧ w.cell? ⟨g, i * 11 + j, none⟩ = (ppCells L.procs[i])[j]? := by
    intro j hj
    have hlt : j < (ppCells L.procs[i]).length := hj
    obtain ⟨g, e, _, c⟩ := h2 (i * 11 + j) ((ppCells L.procs[i])[j]) (by rw [flat_at ppCells 11 pp_len L.procs i hi j hj, List.getElem?_eq_getElem hlt])
    exact ⟨g, e, by rw [c, List.getElem?_eq_getElem hlt]⟩
  obtain ⟨g, rfl, _⟩ := key 0 (by omega)
  refine ⟨g, rfl, fun j hj => ?_⟩
  obtain ⟨g', e, c⟩ := key j hj
  simp at e; subst e; exact c

set_option maxHeartbeats 2000000 in
theorem plive_c {w : World} {B : Nat} {L : PLay} (h : PRep w B L) :
    Calls Tryz.prog 46 #[.pointer (some ⟨L.tb, 0, none⟩)] w fun e w' => e = .returned (I (pliveL L.procs)) ∧ w' = w := by
  have h1 := h.pcell
  obtain ⟨ao, cap, e1, c1, c2, c3, h2⟩ := h.pp_at
  rw [e1] at h1
  clear e1
  have hp : ∀ i, (hi : i < L.procs.length) → ∃ g, ao = some ⟨g, 0, none⟩ ∧ w.cell? ⟨g, i * 11 + 3, none⟩ = some (I (L.procs[i]).phase) := fun i hi => by
    obtain ⟨g, e, f⟩ := h2 i hi
    exact ⟨g, e, f 3 (by omega)⟩
  clear h2
  generalize hps : L.procs = ps at *
  generalize L.tb = tb at *
  unfold maxLen at c2 c3
  clear h
  go_enter Tryz.func46, Tryz.ntmps46
  go_wp2
  go_loop [3, 4] (fun n i => ∃ k : Nat, k ≤ ps.length ∧ n = .int .i64 (pliveL (ps.take k)) ∧ i = .int .i64 k) (fun _ i => ps.length - (intOf i).toNat)
  case atStart => exact ⟨0, Nat.zero_le _, rfl, rfl⟩
  case round =>
    obtain ⟨k, hk, rfl, rfl⟩ := hrel
    have hle := pliveL_le (ps.take k)
    have hle2 : (ps.take k).length ≤ k := List.length_take_le _ _
    by_cases hlt : k < ps.length
    · obtain ⟨g, rfl, hc⟩ := hp k hlt
      have hts := take_succ_get ps k hlt
      have HT : Hid (pliveL (ps.take (k + 1)) = pliveL (ps.take k) + if (ps[k]).phase = 20 then 0 else 1) := by show _ = _; rw [hts, pliveL_append]; simp [pliveL]
      clear hts hp
      generalize hpk : ps[k] = p at *
      clear hpk
      by_cases hh : p.phase = 20
      · have b1 : (p.phase != 20) = false := by simp [hh]
        have HC : Hid (pliveL (ps.take (k + 1)) = pliveL (ps.take k)) := by show _ = _; rw [HT.out, if_pos hh]; rfl
        clear HT hh
        go_wp2
        go_round
        case rel => exact ⟨k + 1, by omega, int_of (by rw [HC.out]), by go_num⟩
        case measure => simp [intOf]; omega
      · have b1 : (p.phase != 20) = true := by simp [hh]
        have HC : Hid (pliveL (ps.take (k + 1)) = pliveL (ps.take k) + 1) := by show _ = _; rw [HT.out, if_neg hh]
        clear HT hh
        go_wp2
        go_round
        case rel => exact ⟨k + 1, by omega, int_of (by rw [HC.out]; omega), by go_num⟩
        case measure => simp [intOf]; omega
    · have HC : Hid (pliveL ps = pliveL (ps.take k)) := by show _ = _; rw [List.take_of_length_le (by omega)]
      go_wp2
      go_ret
      exact ⟨by rw [HC.out]; rfl, rfl⟩

theorem nb_alloc3 (w : World) (o o' : Obj) (arr : Array Value) (T : TypeId) : (((w.alloc o).alloc o').alloc (.cells arr T)).heap[w.heap.size + 2]? = some (.cells arr T (0, 0)) := by
  have := nb_alloc ((w.alloc o).alloc o') arr T
  have e : ((w.alloc o).alloc o').heap.size = w.heap.size + 2 := by simp
  rw [e] at this
  exact this

set_option maxHeartbeats 2000000 in
theorem newProcess_c (o : Op3) (w : World) : Calls Tryz.prog 66 #[opV o] w fun e w' => e = .returned (.agg (ppCells (newPP o)).toArray) ∧ Below w.heap.size w w' := by
  have hch := fun W => pchanges_c o W
  unfold opV at hch ⊢
  replace hch : Hid _ := hch
  obtain ⟨kind, val, node⟩ := o
  simp only at *
  by_cases hc : isChange ⟨kind, val, node⟩ = true
  · rw [hc] at hch
    by_cases hn : node = 1
    · have bn : (node == 1) = true := by simp [hn]
      have HNP : Hid (newPP ⟨kind, val, node⟩ = ⟨kind, val, node, 15, 1, 0, 0, 0, 0, 0, 0⟩) := by show _ = _; rw [newPP, hc]; simp [hn]
      clear hc hn
      go_enter Tryz.func66, Tryz.ntmps66
      go_wp2_with fail
      refine (hch.out _).mono ?_
      rintro e w1 ⟨rfl, hb1⟩
      have na : w1.heap[w.heap.size]? = some (.cells #[I kind, I val, I node] 77 (0, 0)) := (hb1.block _ (by simp; omega)).trans (by
        rw [Below.heap_alloc _ _ _ (by simp; omega), Below.heap_alloc _ _ _ (by simp)]; exact nb_alloc _ _ _)
      have nb : w1.heap[w.heap.size + 1]? = some (.cells #[I 0, I 0, I 0, I 0, I 0, I 0, I 0, I 0, I 0, I 0, I 0] 96 (0, 0)) := (hb1.block _ (by simp)).trans (by
        rw [Below.heap_alloc _ _ _ (by simp)]
        exact nb_alloc2 _ _ _ _)
      have nc : w1.heap[w.heap.size + 2]? = some (.cells #[I kind, I val, I node, I 0, I 1, I 0, I 0, I 0, I 0, I 0, I 0] 96 (0, 0)) := (hb1.block _ (by simp)).trans (nb_alloc3 _ _ _ _ _)
      have hb2 : Below w.heap.size w w1 := ((((Below.refl _ _).alloc (Nat.le_refl _) _).alloc (by simp) _).alloc (by simp; omega) _).trans (hb1.mono (by simp; omega))
      obtain ⟨f1, _⟩ := nb_facts na
      obtain ⟨g1, g2⟩ := nb_facts nb
      obtain ⟨h1, h2⟩ := nb_facts nc
      clear hb1 hch na nb nc
      go_wp2
      refine bodyPost_ret (v := .agg #[I kind, I val, I node, I 15, I 1, I 0, I 0, I 0, I 0, I 0, I 0]) (by simp [results, Tryz.results66, go_sem, g1]) rfl ⟨by rw [HNP.out]; rfl, ?_⟩
      have hb3 := hb2.setCell (p := ⟨w.heap.size + 2, 3, none⟩) (by simp) (I 15)
      exact (((((((((((hb3.setCell (p := ⟨w.heap.size + 1, 0, none⟩) (by simp) (I kind)).setCell (p := ⟨w.heap.size + 1, 1, none⟩) (by simp) (I val)).setCell (p := ⟨w.heap.size + 1, 2, none⟩) (by simp) (I node)).setCell (p := ⟨w.heap.size + 1, 3, none⟩) (by simp) (I 15)).setCell (p := ⟨w.heap.size + 1, 4, none⟩) (by simp) (I 1)).setCell (p := ⟨w.heap.size + 1, 5, none⟩) (by simp) (I 0)).setCell (p := ⟨w.heap.size + 1, 6, none⟩) (by simp) (I 0)).setCell (p := ⟨w.heap.size + 1, 7, none⟩) (by simp) (I 0)).setCell (p := ⟨w.heap.size + 1, 8, none⟩) (by simp) (I 0)).setCell (p := ⟨w.heap.size + 1, 9, none⟩) (by simp) (I 0)).setCell (p := ⟨w.heap.size + 1, 10, none⟩) (by simp) (I 0))
    · have bn : (node == 1) = false := by simp [hn]
      have HNP : Hid (newPP ⟨kind, val, node⟩ = ⟨kind, val, node, 0, 1, 0, 0, 0, 0, 0, 0⟩) := by show _ = _; rw [newPP, hc]; simp [hn]
      clear hc hn
      go_enter Tryz.func66, Tryz.ntmps66
      go_wp2_with fail
      refine (hch.out _).mono ?_
      rintro e w1 ⟨rfl, hb1⟩
      have na : w1.heap[w.heap.size]? = some (.cells #[I kind, I val, I node] 77 (0, 0)) := (hb1.block _ (by simp; omega)).trans (by
        rw [Below.heap_alloc _ _ _ (by simp; omega), Below.heap_alloc _ _ _ (by simp)]; exact nb_alloc _ _ _)
      have nb : w1.heap[w.heap.size + 1]? = some (.cells #[I 0, I 0, I 0, I 0, I 0, I 0, I 0, I 0, I 0, I 0, I 0] 96 (0, 0)) := (hb1.block _ (by simp)).trans (by
        rw [Below.heap_alloc _ _ _ (by simp)]
        exact nb_alloc2 _ _ _ _)
      have nc : w1.heap[w.heap.size + 2]? = some (.cells #[I kind, I val, I node, I 0, I 1, I 0, I 0, I 0, I 0, I 0, I 0] 96 (0, 0)) := (hb1.block _ (by simp)).trans (nb_alloc3 _ _ _ _ _)
      have hb2 : Below w.heap.size w w1 := ((((Below.refl _ _).alloc (Nat.le_refl _) _).alloc (by simp) _).alloc (by simp; omega) _).trans (hb1.mono (by simp; omega))
      obtain ⟨f1, _⟩ := nb_facts na
      obtain ⟨g1, g2⟩ := nb_facts nb
      obtain ⟨h1, h2⟩ := nb_facts nc
      clear hb1 hch na nb nc
      go_wp2
      refine bodyPost_ret (v := .agg #[I kind, I val, I node, I 0, I 1, I 0, I 0, I 0, I 0, I 0, I 0]) (by simp [results, Tryz.results66, go_sem, g1]) rfl ⟨by rw [HNP.out]; rfl, ?_⟩
      exact (((((((((((hb2.setCell (p := ⟨w.heap.size + 1, 0, none⟩) (by simp) (I kind)).setCell (p := ⟨w.heap.size + 1, 1, none⟩) (by simp) (I val)).setCell (p := ⟨w.heap.size + 1, 2, none⟩) (by simp) (I node)).setCell (p := ⟨w.heap.size + 1, 3, none⟩) (by simp) (I 0)).setCell (p := ⟨w.heap.size + 1, 4, none⟩) (by simp) (I 1)).setCell (p := ⟨w.heap.size + 1, 5, none⟩) (by simp) (I 0)).setCell (p := ⟨w.heap.size + 1, 6, none⟩) (by simp) (I 0)).setCell (p := ⟨w.heap.size + 1, 7, none⟩) (by simp) (I 0)).setCell (p := ⟨w.heap.size + 1, 8, none⟩) (by simp) (I 0)).setCell (p := ⟨w.heap.size + 1, 9, none⟩) (by simp) (I 0)).setCell (p := ⟨w.heap.size + 1, 10, none⟩) (by simp) (I 0))
  · have hcf : isChange ⟨kind, val, node⟩ = false := by simpa using hc
    rw [hcf] at hch
    have HNP : Hid (newPP ⟨kind, val, node⟩ = ⟨kind, val, node, 0, 1, 0, 0, 0, 0, 0, 0⟩) := by show _ = _; rw [newPP, hcf]; simp
    clear hc hcf
    go_enter Tryz.func66, Tryz.ntmps66
    go_wp2_with fail
    refine (hch.out _).mono ?_
    rintro e w1 ⟨rfl, hb1⟩
    have na : w1.heap[w.heap.size]? = some (.cells #[I kind, I val, I node] 77 (0, 0)) := (hb1.block _ (by simp; omega)).trans (by
      rw [Below.heap_alloc _ _ _ (by simp; omega), Below.heap_alloc _ _ _ (by simp)]; exact nb_alloc _ _ _)
    have nb : w1.heap[w.heap.size + 1]? = some (.cells #[I 0, I 0, I 0, I 0, I 0, I 0, I 0, I 0, I 0, I 0, I 0] 96 (0, 0)) := (hb1.block _ (by simp)).trans (by
      rw [Below.heap_alloc _ _ _ (by simp)]
      exact nb_alloc2 _ _ _ _)
    have nc : w1.heap[w.heap.size + 2]? = some (.cells #[I kind, I val, I node, I 0, I 1, I 0, I 0, I 0, I 0, I 0, I 0] 96 (0, 0)) := (hb1.block _ (by simp)).trans (nb_alloc3 _ _ _ _ _)
    have hb2 : Below w.heap.size w w1 := ((((Below.refl _ _).alloc (Nat.le_refl _) _).alloc (by simp) _).alloc (by simp; omega) _).trans (hb1.mono (by simp; omega))
    obtain ⟨f1, _⟩ := nb_facts na
    obtain ⟨g1, g2⟩ := nb_facts nb
    obtain ⟨h1, h2⟩ := nb_facts nc
    clear hb1 hch na nb nc
    go_wp2
    refine bodyPost_ret (v := .agg #[I kind, I val, I node, I 0, I 1, I 0, I 0, I 0, I 0, I 0, I 0]) (by simp [results, Tryz.results66, go_sem, g1]) rfl ⟨by rw [HNP.out]; rfl, ?_⟩
    exact (((((((((((hb2.setCell (p := ⟨w.heap.size + 1, 0, none⟩) (by simp) (I kind)).setCell (p := ⟨w.heap.size + 1, 1, none⟩) (by simp) (I val)).setCell (p := ⟨w.heap.size + 1, 2, none⟩) (by simp) (I node)).setCell (p := ⟨w.heap.size + 1, 3, none⟩) (by simp) (I 0)).setCell (p := ⟨w.heap.size + 1, 4, none⟩) (by simp) (I 1)).setCell (p := ⟨w.heap.size + 1, 5, none⟩) (by simp) (I 0)).setCell (p := ⟨w.heap.size + 1, 6, none⟩) (by simp) (I 0)).setCell (p := ⟨w.heap.size + 1, 7, none⟩) (by simp) (I 0)).setCell (p := ⟨w.heap.size + 1, 8, none⟩) (by simp) (I 0)).setCell (p := ⟨w.heap.size + 1, 9, none⟩) (by simp) (I 0)).setCell (p := ⟨w.heap.size + 1, 10, none⟩) (by simp) (I 0))

theorem PRep.push {w w1 w2 : World} {B : Nat} {L : PLay} {p : PP} {x : Value} (h : PRep w B L) (hw : Below w.heap.size w w1)
    (ho : w2.ownsRow B 96 11 x (L.procs.length + 1) (L.procs.flatMap ppCells ++ ppCells p)) (hg : w1.grownBy w2 L.pv.ownBlock) :
    PRep (w2.setCell ⟨L.tb, 680, none⟩ x) B { L with pv := x, procs := L.procs ++ [p] } ∧ ChgT B [61, 96] w (w2.setCell ⟨L.tb, 680, none⟩ x) := by
  have h1 := h.below hw
  have hne : some L.tb ≠ L.pv.ownBlock := by
    intro e
    obtain ⟨c', hc'⟩ := ownsRow_block h.prow e.symm
    rw [h.tree] at hc'
    simp at hc'
  have ht2 : w2.heap[L.tb]? = some (.cells (pTree L).toArray 61 (0, 0)) := by
    rw [hg.block L.tb (by have := h1.size; omega) hne]; exact h1.tree
  have hch : ChgT B [61, 96] w (w2.setCell ⟨L.tb, 680, none⟩ x) := by
    refine ⟨hg.os.trans hw.os, hg.tape.trans hw.tape, hg.output.trans hw.output, by simpa [World.setCell] using Nat.le_trans hw.size hg.size, fun k hk hc => ?_⟩
    have hkt : k ≠ L.tb := by
      intro e
      subst e
      rcases hc with hc | hc
      · have := h.treeB; omega
      · exact absurd (hc _ _ _ h.tree) (by simp)
    rw [Below.heap_setCell _ _ _ _ hkt, hg.block k (by have := hw.size; omega) (fun he => ?_), hw.block k hk]
    rcases hc with hc | hc
    · have := (h.prow.lt k he.symm).1; omega
    · obtain ⟨c', hc'⟩ := ownsRow_block h.prow he.symm
      exact absurd (hc _ _ _ hc') (by simp)
  refine ⟨⟨?_, h.treeB, h.len, ?_, fun v hv => hch.row (h.items v hv) (by decide), h.ind⟩, hch⟩
  · have := nb_set ht2 680 x
    rw [this]
    congr 2
    have e : (pTree L).set 680 x = pTree { L with pv := x, procs := L.procs ++ [p] } := by
      have hl : (pConf L.c ++ L.nodes.flatMap pnCells).length = 680 := by
        rw [List.length_append, flat_length pnCells 21 pn_len, h.len]; rfl
      show (pConf L.c ++ (L.nodes.flatMap pnCells ++ [L.pv])).set 680 x = pConf L.c ++ (L.nodes.flatMap pnCells ++ [x])
      rw [← List.append_assoc, ← List.append_assoc, List.set_append_right _ _ (by omega), hl]
      rfl
    rw [← e]
    simp
  · have := ownsRow_setCell_type ho ht2 (by decide) 680 x
    simpa using this

theorem PRep.conf_cells {w : World} {B : Nat} {L : PLay} (h : PRep w B L) : w.cell? ⟨L.tb, 0, none⟩ = some (I L.c.kind) ∧ w.cell? ⟨L.tb, 1, none⟩ = some (I L.c.depth) ∧ w.cell? ⟨L.tb, 2, none⟩ = some (I L.c.start) ∧ w.cell? ⟨L.tb, 3, none⟩ = some (I L.c.slots) ∧ w.cell? ⟨L.tb, 4, none⟩ = some (I L.c.width) ∧ w.cell? ⟨L.tb, 5, none⟩ = some (I L.c.spin) ∧ w.cell? ⟨L.tb, 6, none⟩ = some (I L.c.drain) ∧ w.cell? ⟨L.tb, 7, none⟩ = some (I L.c.procs) :=
  ⟨h.ccell 0 (by omega), h.ccell 1 (by omega), h.ccell 2 (by omega), h.ccell 3 (by omega), h.ccell 4 (by omega), h.ccell 5 (by omega), h.ccell 6 (by omega), h.ccell 7 (by omega)⟩

set_option maxHeartbeats 4000000 in
theorem pspawn_err2 {w : World} {B : Nat} {L : PLay} (h : PRep w B L) (o : Op3) (ho : ¬ okOp L.c o) (hd0 : 0 ≤ L.c.depth) (hd4 : L.c.depth ≤ 4) :
    Calls Tryz.prog 41 #[.pointer (some ⟨L.tb, 0, none⟩), opV o] w fun e w' => e = .returned (.tuple #[I 0, I 2]) ∧ Below w.heap.size w w' := by
  have hh := fun W => hasOp_no L.c o ho hd0 hd4 W
  obtain ⟨c0, c1, c2, c3, c4, c5, c6, c7⟩ := h.conf_cells
  have l0 := h.size
  unfold opV confV at *
  replace hh : Hid _ := hh
  clear h ho hd0 hd4
  obtain ⟨kind, val, node⟩ := o
  simp only at *
  go_enter Tryz.func41, Tryz.ntmps41
  go_wp2_with fail
  go_region_with (go_at_call 65; refine (hh.out _).mono ?_; rintro e w1 ⟨rfl, hb1⟩)
  all_goals
    go_wp2
    go_ret2
    exact ⟨rfl, ((Below.refl _ _).alloc (Nat.le_refl _) _).drew.trans (hb1.mono (by show w.heap.size ≤ (w.alloc _).heap.size; simp))⟩

set_option maxHeartbeats 4000000 in
theorem pspawn_err3 {w : World} {B : Nat} {L : PLay} (h : PRep w B L) (o : Op3) (ho : okOp L.c o) (hd0 : 0 ≤ L.c.depth) (hd4 : L.c.depth ≤ 4) (hn : L.procs.length = 256) :
    Calls Tryz.prog 41 #[.pointer (some ⟨L.tb, 0, none⟩), opV o] w fun e w' => e = .returned (.tuple #[I 0, I 3]) ∧ Below w.heap.size w w' := by
  have hh := fun W => hasOp_yes L.c o ho hd0 hd4 W
  obtain ⟨c0, c1, c2, c3, c4, c5, c6, c7⟩ := h.conf_cells
  have c8 := h.pcell
  obtain ⟨ao, cap, e1, q1, q2, q3, hx⟩ := h.pp_at
  clear hx
  rw [e1, hn] at c8
  have l0 := h.size
  unfold opV confV at *
  replace hh : Hid _ := hh
  clear h ho hd0 hd4 e1 hn q1 q2 q3
  obtain ⟨kind, val, node⟩ := o
  simp only at *
  go_enter Tryz.func41, Tryz.ntmps41
  go_wp2_with fail
  go_region_with (go_at_call 65; refine (hh.out _).mono ?_; rintro e w1 ⟨rfl, hb1⟩)
  all_goals
    have hb2 : Below w.heap.size w w1 := ((Below.refl _ _).alloc (Nat.le_refl _) _).drew.trans (hb1.mono (by show w.heap.size ≤ (w.alloc _).heap.size; simp))
    have k8 := (hb2.cell (p := ⟨L.tb, 680, none⟩) l0).trans c8
    clear hb1
    go_wp2
    go_ret2
    exact ⟨rfl, hb2⟩

set_option maxHeartbeats 4000000 in
theorem pspawn_err4 {w : World} {B : Nat} {L : PLay} (h : PRep w B L) (o : Op3) (ho : okOp L.c o) (hd0 : 0 ≤ L.c.depth) (hd4 : L.c.depth ≤ 4) (hn : L.procs.length < 256) (hlv : L.c.procs ≤ (pliveL L.procs : Int)) :
    Calls Tryz.prog 41 #[.pointer (some ⟨L.tb, 0, none⟩), opV o] w fun e w' => e = .returned (.tuple #[I 0, I 4]) ∧ Below w.heap.size w w' := by
  have hh := fun W => hasOp_yes L.c o ho hd0 hd4 W
  have hlive := fun W (hb : Below w.heap.size w W) => plive_c (h.below hb)
  obtain ⟨c0, c1, c2, c3, c4, c5, c6, c7⟩ := h.conf_cells
  have c8 := h.pcell
  obtain ⟨ao, cap, e1, q1, q2, q3, hx⟩ := h.pp_at
  clear hx
  rw [e1] at c8
  have l0 := h.size
  have hd : decide ((256 : Int) ≤ (L.procs.length : Int)) = false := by simp; omega
  unfold opV confV at *
  replace hh : Hid _ := hh
  replace hlive : Hid _ := hlive
  clear h ho hd0 hd4 e1 q1 q2 q3
  generalize pliveL L.procs = lv at *
  generalize L.procs.length = n at *
  obtain ⟨kind, val, node⟩ := o
  simp only at *
  go_enter Tryz.func41, Tryz.ntmps41
  go_wp2_with fail
  go_region_with (go_at_call 65; refine (hh.out _).mono ?_; rintro e w1 ⟨rfl, hb1⟩)
  all_goals
    have hb2 : Below w.heap.size w w1 := ((Below.refl _ _).alloc (Nat.le_refl _) _).drew.trans (hb1.mono (by show w.heap.size ≤ (w.alloc _).heap.size; simp))
    have k8 := (hb2.cell (p := ⟨L.tb, 680, none⟩) l0).trans c8
    have k7 := (hb2.cell (p := ⟨L.tb, 7, none⟩) l0).trans c7
    clear hb1 c0 c1 c2 c3 c4 c5 c6 c7 c8 hh
    go_wp2_with fail
    go_quiet ((go_at_call 46; exact Calls.quiet_of_same (hlive.out _ (by first | exact hb2.drew | exact Below.drewN' hb2 _ | exact hb2))))
    go_wp2
    go_ret2
    exact ⟨rfl, Below.drewN' hb2 _⟩

theorem Tryz.info96 : (Tryz.prog.info? 96).map (fun i => (i.zero, i.size, i.bytes)) = some (some (.agg #[.int .i64 0, .int .i64 0, .int .i64 0, .int .i64 0, .int .i64 0, .int .i64 0, .int .i64 0, .int .i64 0, .int .i64 0, .int .i64 0, .int .i64 0]), 11, 88) := by kernel_rfl

set_option maxHeartbeats 8000000 in
theorem pspawn_yes {w : World} {B : Nat} {L : PLay} (h : PRep w B L) (hB : B ≤ w.heap.size) (o : Op3) (ho : okOp L.c o) (hd0 : 0 ≤ L.c.depth) (hd4 : L.c.depth ≤ 4) (hn : L.procs.length < 256) (hlv : (pliveL L.procs : Int) < L.c.procs) :
    Calls Tryz.prog 41 #[.pointer (some ⟨L.tb, 0, none⟩), opV o] w fun e w' => e = .returned (.tuple #[I L.procs.length, I 0]) ∧ (∃ x, PRep w' B { L with pv := x, procs := L.procs ++ [newPP o] }) ∧ ChgT B [61, 96] w w' := by
  have hh := fun W => hasOp_yes L.c o ho hd0 hd4 W
  have hlive := fun W (hb : Below w.heap.size w W) => plive_c (h.below hb)
  have hnp := fun W => newProcess_c o W
  obtain ⟨c0, c1, c2, c3, c4, c5, c6, c7⟩ := h.conf_cells
  have c8 := h.pcell
  obtain ⟨ao, cap, e1, q1, q2, q3, hx⟩ := h.pp_at
  clear hx
  rw [e1] at c8
  have l0 := h.size
  have hd : decide ((256 : Int) ≤ (L.procs.length : Int)) = false := by simp; omega
  have hdl : decide (L.c.procs ≤ ((pliveL L.procs : Nat) : Int)) = false := by simp; omega
  unfold opV confV at *
  replace hh : Hid _ := hh
  replace hlive : Hid _ := hlive
  replace hnp : Hid _ := hnp
  clear ho hd0 hd4
  generalize pliveL L.procs = lv at *
  obtain ⟨kind, val, node⟩ := o
  simp only at *
  go_enter Tryz.func41, Tryz.ntmps41
  go_wp2_with fail
  go_region_with (go_at_call 65; refine (hh.out _).mono ?_; rintro e w1 ⟨rfl, hb1⟩)
  all_goals
    have hb2 : Below w.heap.size w w1 := ((Below.refl _ _).alloc (Nat.le_refl _) _).drew.trans (hb1.mono (by show w.heap.size ≤ (w.alloc _).heap.size; simp))
    have nbo : w1.heap[w.heap.size]? = some (.cells #[I kind, I val, I node] 77 (0, 0)) := (hb1.block _ (by show w.heap.size < (w.alloc _).heap.size; simp)).trans (nb_alloc _ _ _)
    have k8 := (hb2.cell (p := ⟨L.tb, 680, none⟩) l0).trans c8
    have k7 := (hb2.cell (p := ⟨L.tb, 7, none⟩) l0).trans c7
    clear hb1 c0 c1 c2 c3 c4 c5 c6 hh
    go_wp2_with fail
    go_quiet ((go_at_call 46; exact Calls.quiet_of_same (hlive.out _ (by first | exact hb2.drew | exact Below.drewN' hb2 _ | exact hb2))))
    have hb3 := Below.drewN' hb2 nq
    have hbq : Below w1.heap.size w1 (w1.drewN nq) := Below.drewN' (Below.refl _ _) nq
    have nbo2 := (hbq.block _ (Array.getElem?_eq_some_iff.1 nbo).1).trans nbo
    have k82 := (hb3.cell (p := ⟨L.tb, 680, none⟩) l0).trans c8
    have l1 : L.tb < (w1.drewN nq).heap.size := Nat.lt_of_lt_of_le l0 hb3.size
    clear hb2 nbo k8 k7 hlive hbq
    generalize w1.drewN nq = wq at *
    obtain ⟨f1, _⟩ := nb_facts nbo2
    go_wp2_with fail
    refine (hnp.out _).mono ?_
    rintro e w3 ⟨rfl, hb4⟩
    have HPP : Hid (ppCells (newPP ⟨kind, val, node⟩) = [I (newPP ⟨kind, val, node⟩).kind, I (newPP ⟨kind, val, node⟩).oval, I (newPP ⟨kind, val, node⟩).onode, I (newPP ⟨kind, val, node⟩).phase, I (newPP ⟨kind, val, node⟩).node, I (newPP ⟨kind, val, node⟩).val, I (newPP ⟨kind, val, node⟩).width, I (newPP ⟨kind, val, node⟩).slot, I (newPP ⟨kind, val, node⟩).mind, I (newPP ⟨kind, val, node⟩).pat, I (newPP ⟨kind, val, node⟩).ticket]) := rfl
    rw [HPP.out]
    generalize (newPP ⟨kind, val, node⟩).kind = pk at *
    generalize (newPP ⟨kind, val, node⟩).oval = pv at *
    generalize (newPP ⟨kind, val, node⟩).onode = po at *
    generalize (newPP ⟨kind, val, node⟩).phase = ph at *
    generalize (newPP ⟨kind, val, node⟩).node = pn at *
    generalize (newPP ⟨kind, val, node⟩).val = pl at *
    generalize (newPP ⟨kind, val, node⟩).width = pw at *
    generalize (newPP ⟨kind, val, node⟩).slot = ps at *
    generalize (newPP ⟨kind, val, node⟩).mind = pm at *
    generalize (newPP ⟨kind, val, node⟩).pat = pa at *
    generalize (newPP ⟨kind, val, node⟩).ticket = pt at *
    have hb5 := hb3.trans (hb4.mono hb3.size)
    have k83 := (hb5.cell (p := ⟨L.tb, 680, none⟩) l0).trans c8
    have l2 : L.tb < w3.heap.size := Nat.lt_of_lt_of_le l0 hb5.size
    clear f1 nbo2 k82 hb3 hb4 hnp
    go_wp2_with fail
    have hrow : w3.ownsRow B 96 11 (.slice ao L.procs.length cap) L.procs.length (L.procs.flatMap ppCells) := by have := ownsRow_below h.prow hb5 (Nat.le_refl _); rw [e1] at this; exact this
    have hsz := hb5.size
    have HB2 : Hid (Below w.heap.size w (((w3.alloc (.cells #[I pk, I pv, I po, I ph, I pn, I pl, I pw, I ps, I pm, I pa, I pt] 96)).alloc (.cells #[I pk, I pv, I po, I ph, I pn, I pl, I pw, I ps, I pm, I pa, I pt] 96)).drew)) := ((hb5.alloc hb5.size _).alloc (by simp; omega) _).drew
    have HO : Hid ((((w3.alloc (.cells #[I pk, I pv, I po, I ph, I pn, I pl, I pw, I ps, I pm, I pa, I pt] 96)).alloc (.cells #[I pk, I pv, I po, I ph, I pn, I pl, I pw, I ps, I pm, I pa, I pt] 96)).drew).ownsRow B 96 11 (.slice ao L.procs.length cap) L.procs.length (L.procs.flatMap ppCells)) := ((hrow.alloc _).alloc _).drew
    have HN : Hid (∀ j u, [I pk, I pv, I po, I ph, I pn, I pl, I pw, I ps, I pm, I pa, I pt][j]? = some u → (((w3.alloc (.cells #[I pk, I pv, I po, I ph, I pn, I pl, I pw, I ps, I pm, I pa, I pt] 96)).alloc (.cells #[I pk, I pv, I po, I ph, I pn, I pl, I pw, I ps, I pm, I pa, I pt] 96)).drew).cell? ((⟨w3.heap.size + 1, 0, none⟩ : Addr).add j) = some u) := by
      have := cells_new (w3.alloc (.cells #[I pk, I pv, I po, I ph, I pn, I pl, I pw, I ps, I pm, I pa, I pt] 96)) [I pk, I pv, I po, I ph, I pn, I pl, I pw, I ps, I pm, I pa, I pt] 96
      simp only [World.size_alloc] at this
      exact this
    have H1 : Hid (∀ u ∈ [I pk, I pv, I po, I ph, I pn, I pl, I pw, I ps, I pm, I pa, I pt], u.oneCell' = true) := by
      intro u hu
      simp only [List.mem_cons, List.not_mem_nil, or_false] at hu
      rcases hu with h | h | h | h | h | h | h | h | h | h | h <;> subst h <;> rfl
    have HB : Hid (B ≤ (((w3.alloc (.cells #[I pk, I pv, I po, I ph, I pn, I pl, I pw, I ps, I pm, I pa, I pt] 96)).alloc (.cells #[I pk, I pv, I po, I ph, I pn, I pl, I pw, I ps, I pm, I pa, I pt] 96)).drew).heap.size) := by
      show B ≤ ((w3.alloc _).alloc _).heap.size
      simp; omega
    have HM : Hid (L.procs.length + 1 ≤ maxLen) := by show _ ≤ _; unfold maxLen; omega
    have HY : Hid ((L.procs.length + 1) * 88 ≤ 140737488355328) := by show _ ≤ _; omega
    have HH : Hid ((((w3.alloc (.cells #[I pk, I pv, I po, I ph, I pn, I pl, I pw, I ps, I pm, I pa, I pt] 96)).alloc (.cells #[I pk, I pv, I po, I ph, I pn, I pl, I pw, I ps, I pm, I pa, I pt] 96)).drew).heap.size = w3.heap.size + 2) := by
      show ((w3.alloc _).alloc _).heap.size = _
      simp
    have HC : Hid (∀ w', (((w3.alloc (.cells #[I pk, I pv, I po, I ph, I pn, I pl, I pw, I ps, I pm, I pa, I pt] 96)).alloc (.cells #[I pk, I pv, I po, I ph, I pn, I pl, I pw, I ps, I pm, I pa, I pt] 96)).drew).grownBy w' (Value.slice ao L.procs.length cap).ownBlock → w'.cell? ⟨L.tb, 680, none⟩ = some (.slice ao L.procs.length cap) ∧ w'.frozen? ⟨L.tb, 680, none⟩ = false) := by
      intro w' hg
      have hne : some L.tb ≠ (Value.slice ao L.procs.length cap).ownBlock := by
        rw [← e1]
        intro e
        obtain ⟨c', hc'⟩ := ownsRow_block h.prow e.symm
        rw [h.tree] at hc'
        simp at hc'
      have ht0 : w'.heap[L.tb]? = w.heap[L.tb]? := (hg.block L.tb (by show L.tb < ((w3.alloc _).alloc _).heap.size; simp; omega) hne).trans (HB2.out.block L.tb l0)
      exact ⟨(World.cell?_of_block (a := ⟨L.tb, 680, none⟩) ht0).trans c8, (World.frozen?_of_block (a := ⟨L.tb, 680, none⟩) ht0).trans ((nb_facts h.tree).2 680)⟩
    have HP : Hid (∀ w' x, w'.ownsRow B 96 11 x (L.procs.length + 1) (L.procs.flatMap ppCells ++ [I pk, I pv, I po, I ph, I pn, I pl, I pw, I ps, I pm, I pa, I pt]) → (((w3.alloc (.cells #[I pk, I pv, I po, I ph, I pn, I pl, I pw, I ps, I pm, I pa, I pt] 96)).alloc (.cells #[I pk, I pv, I po, I ph, I pn, I pl, I pw, I ps, I pm, I pa, I pt] 96)).drew).grownBy w' (Value.slice ao L.procs.length cap).ownBlock →
        PRep (w'.setCell ⟨L.tb, 680, none⟩ x) B { L with pv := x, procs := L.procs ++ [newPP ⟨kind, val, node⟩] } ∧ ChgT B [61, 96] w (w'.setCell ⟨L.tb, 680, none⟩ x)) := by
      intro w' x a1 a2
      rw [← HPP.out] at a1
      rw [← e1] at a2
      exact h.push HB2.out a1 a2
    clear hrow hb5 hsz c7 c8 hB h e1 HPP
    obtain ⟨i0, hi, hz0, hz1, hz2⟩ := info_parts Tryz.info96
    go_region_law (refine step_append_lies _ rfl (.tmp 40) (.tmp 42) 59 rfl B 96 i0 _ 11 88 Tryz.underlying59 hi hz0 hz1 hz2 rfl (by decide) _ _ _ rfl HO.out ⟨w3.heap.size + 1, 0, none⟩ 1 1 [I pk, I pv, I po, I ph, I pn, I pl, I pw, I ps, I pm, I pa, I pt] rfl rfl HN.out H1.out (by decide) HM.out HY.out HB.out (w3.heap.size + 2) HH.out ?_; intro g cp w4 ho4 hg4 _ _; obtain ⟨cc1, cc2⟩ := HC.out _ hg4; have hfin := HP.out _ _ ho4 hg4; replace hfin : Hid _ := hfin; clear hg4 ho4)
    all_goals
      go_wp2
      go_ret2
      exact ⟨rfl, ⟨_, hfin.out.1⟩, hfin.out.2⟩

end Go.Proofs.YtjnmpejcegmkhaaGreatDoor
