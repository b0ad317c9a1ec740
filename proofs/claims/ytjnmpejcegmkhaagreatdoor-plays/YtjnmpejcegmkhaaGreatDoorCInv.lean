/- The contract of package prismref's Spawn where it is refused. No statement of the seat is proved here. The contract of the program's New. A new tree of the program and a new tree of the document's answer tell the same. No statement of the seat is proved here. Contracts of the statements' own wanted and looks (package prismlaw). A tree of the program and one of the document's answer, as long as nobody steps: they tell the same. A step of a script, as long as nobody steps: the statements' own step answers true, and both trees go on alike. A step of a script that spawns: the statements' own step answers true, and both trees go on alike. No statement of the seat is proved here. What holds of the document's tree in the midst of things beside what both trees have in common: where Folds and Unfolds stand, who has shut a gate, how the tokens are shared out among the children of a node, how many items lie in a leaf. One process moves: what is to be shown of it, so that all that goes on. No statement of the seat is proved here. -/
import Derived.Test.YtjnmpejcegmkhaaGreatDoorRefB
import Derived.Test.YtjnmpejcegmkhaaGreatDoorProgA
import Derived.Test.YtjnmpejcegmkhaaGreatDoorRefA
import Derived.Test.YtjnmpejcegmkhaaGreatDoorProgB
import Derived.Deep.RegionWith
import Derived.Test.YtjnmpejcegmkhaaGreatDoorRefStA
namespace Go.Proofs.YtjnmpejcegmkhaaGreatDoor
open Go.RowKit

theorem noOp_ways (c : Conf) (o : Op3) (h : ¬ okOp c o) : ((o.kind == 0) = true ∧ (c.kind == 0) = false ∧ (o.kind == 1) = false ∧ (o.kind == 2) = false ∧ isChange o = false) ∨ ((o.kind == 0) = false ∧ (o.kind == 1) = true ∧ (c.kind == 1) = false ∧ isChange o = false) ∨ ((o.kind == 0) = false ∧ (o.kind == 1) = false ∧ (o.kind == 2) = true ∧ (c.kind == 1) = false ∧ isChange o = false) ∨
    ((o.kind == 0) = false ∧ (o.kind == 1) = false ∧ (o.kind == 2) = false ∧ isChange o = false) ∨ ((o.kind == 0) = false ∧ (o.kind == 1) = false ∧ (o.kind == 2) = false ∧ isChange o = true ∧ o.node < 1) ∨
    ((o.kind == 0) = false ∧ (o.kind == 1) = false ∧ (o.kind == 2) = false ∧ isChange o = true ∧ 1 ≤ o.node ∧ ((2 ^ c.depth.toNat : Nat) : Int) ≤ o.node) := by
  unfold okOp at h
  simp only [isChange, beq_iff_eq, beq_eq_false_iff_ne, Bool.or_eq_false_iff, Bool.or_eq_true, decide_eq_true_eq, decide_eq_false_iff_not]
  omega

set_option maxHeartbeats 8000000 in
theorem rspawn_err2 {w : World} {B : Nat} {L : Lay} (h : RefRep w B L) (o : Op3) (ho : ¬ okOp L.c o) (hd0 : 0 ≤ L.c.depth) (hd4 : L.c.depth ≤ 4) :
    Calls Tryz.prog 49 #[.pointer (some ⟨L.tb, 0, none⟩), opV o] w fun e w' => e = .returned (.tuple #[I 0, I 2]) ∧ Below w.heap.size w w' := by
  have hch := fun W => changes_c o W
  have hlive := fun W (hb : Below w.heap.size w W) => live_c (h.below hb)
  have c0 : w.cell? ⟨L.tb, 0, none⟩ = some (I L.c.kind) := by rw [block_cell h.tree]; rfl
  have c1 : w.cell? ⟨L.tb, 1, none⟩ = some (I L.c.depth) := by rw [block_cell h.tree]; rfl
  have c7 : w.cell? ⟨L.tb, 7, none⟩ = some (I L.c.procs) := by rw [block_cell h.tree]; rfl
  have c8 := h.pv_cell
  obtain ⟨ao, cap, e1, q1, q2, q3, hx⟩ := ownsRow_cells h.prow
  clear hx
  rw [e1] at c8
  have l0 := h.size
  obtain ⟨d, hd⟩ := Int.eq_ofNat_of_zero_le hd0
  rw [hd] at c1
  have hd4n : d ≤ 4 := by omega
  have hs := sh_one d (by omega)
  have hdn : L.c.depth.toNat = d := by omega
  have hways := noOp_ways L.c o ho
  rw [hdn] at hways
  obtain ⟨P2, hP2⟩ : ∃ P2 : Nat, P2 = 2 ^ d := ⟨_, rfl⟩
  rw [← hP2] at hs hways
  unfold maxLen at q2 q3
  unfold opV at hch ⊢
  replace hch : Hid _ := hch
  replace hlive : Hid _ := hlive
  clear h ho hP2 hdn hd hd0 hd4 e1
  generalize L.c.kind = ck at *
  generalize L.c.procs = cp at *
  generalize liveL L.procs = lv at *
  obtain ⟨kind, val, node⟩ := o
  simp only at *
  rcases hways with ⟨b0, k0, b1, b2, hc⟩ | ⟨b0, b1, k1, hc⟩ | ⟨b0, b1, b2, k1, hc⟩ | ⟨b0, b1, b2, hc⟩ | ⟨b0, b1, b2, hc, n1⟩ | ⟨b0, b1, b2, hc, n1, n2⟩
  · rw [hc] at hch
    clear hc
    go_enter Tryz.func49, Tryz.ntmps49
    go_wp2_with fail
    refine (hch.out _).mono ?_
    rintro e w0 ⟨rfl, hb1⟩
    have nbo : w0.heap[w.heap.size]? = some (.cells #[I kind, I val, I node] 77 (0, 0)) := (hb1.block _ (by simp)).trans (nb_alloc _ _ _)
    have hb2 : Below w.heap.size w w0 := ((Below.refl _ _).alloc (Nat.le_refl _) _).trans (hb1.mono (by simp))
    have l1 : L.tb < w0.heap.size := Nat.lt_of_lt_of_le l0 hb2.size
    have ls := (Array.getElem?_eq_some_iff.1 nbo).1
    have k0' := (hb2.cell (p := ⟨L.tb, 0, none⟩) l0).trans c0
    have k1' := (hb2.cell (p := ⟨L.tb, 1, none⟩) l0).trans c1
    have k7' := (hb2.cell (p := ⟨L.tb, 7, none⟩) l0).trans c7
    have k8' := (hb2.cell (p := ⟨L.tb, 8, none⟩) l0).trans c8
    obtain ⟨f1, _⟩ := nb_facts nbo
    clear hb1 c0 c1 c7 c8 hch
    go_wp2_with fail
    refine (hlive.out _ hb2).mono ?_
    rintro e w2 ⟨rfl, rfl⟩
    clear hlive
    go_wp2
    go_ret2
    exact ⟨rfl, hb2⟩
  · rw [hc] at hch
    clear hc
    go_enter Tryz.func49, Tryz.ntmps49
    go_wp2_with fail
    refine (hch.out _).mono ?_
    rintro e w0 ⟨rfl, hb1⟩
    have nbo : w0.heap[w.heap.size]? = some (.cells #[I kind, I val, I node] 77 (0, 0)) := (hb1.block _ (by simp)).trans (nb_alloc _ _ _)
    have hb2 : Below w.heap.size w w0 := ((Below.refl _ _).alloc (Nat.le_refl _) _).trans (hb1.mono (by simp))
    have l1 : L.tb < w0.heap.size := Nat.lt_of_lt_of_le l0 hb2.size
    have ls := (Array.getElem?_eq_some_iff.1 nbo).1
    have k0' := (hb2.cell (p := ⟨L.tb, 0, none⟩) l0).trans c0
    have k1' := (hb2.cell (p := ⟨L.tb, 1, none⟩) l0).trans c1
    have k7' := (hb2.cell (p := ⟨L.tb, 7, none⟩) l0).trans c7
    have k8' := (hb2.cell (p := ⟨L.tb, 8, none⟩) l0).trans c8
    obtain ⟨f1, _⟩ := nb_facts nbo
    clear hb1 c0 c1 c7 c8 hch
    go_wp2_with fail
    refine (hlive.out _ hb2).mono ?_
    rintro e w2 ⟨rfl, rfl⟩
    clear hlive
    go_wp2
    go_ret2
    exact ⟨rfl, hb2⟩
  · rw [hc] at hch
    clear hc
    go_enter Tryz.func49, Tryz.ntmps49
    go_wp2_with fail
    refine (hch.out _).mono ?_
    rintro e w0 ⟨rfl, hb1⟩
    have nbo : w0.heap[w.heap.size]? = some (.cells #[I kind, I val, I node] 77 (0, 0)) := (hb1.block _ (by simp)).trans (nb_alloc _ _ _)
    have hb2 : Below w.heap.size w w0 := ((Below.refl _ _).alloc (Nat.le_refl _) _).trans (hb1.mono (by simp))
    have l1 : L.tb < w0.heap.size := Nat.lt_of_lt_of_le l0 hb2.size
    have ls := (Array.getElem?_eq_some_iff.1 nbo).1
    have k0' := (hb2.cell (p := ⟨L.tb, 0, none⟩) l0).trans c0
    have k1' := (hb2.cell (p := ⟨L.tb, 1, none⟩) l0).trans c1
    have k7' := (hb2.cell (p := ⟨L.tb, 7, none⟩) l0).trans c7
    have k8' := (hb2.cell (p := ⟨L.tb, 8, none⟩) l0).trans c8
    obtain ⟨f1, _⟩ := nb_facts nbo
    clear hb1 c0 c1 c7 c8 hch
    go_wp2_with fail
    refine (hlive.out _ hb2).mono ?_
    rintro e w2 ⟨rfl, rfl⟩
    clear hlive
    go_wp2
    go_ret2
    exact ⟨rfl, hb2⟩
  · rw [hc] at hch
    clear hc
    go_enter Tryz.func49, Tryz.ntmps49
    go_wp2_with fail
    refine (hch.out _).mono ?_
    rintro e w0 ⟨rfl, hb1⟩
    have nbo : w0.heap[w.heap.size]? = some (.cells #[I kind, I val, I node] 77 (0, 0)) := (hb1.block _ (by simp)).trans (nb_alloc _ _ _)
    have hb2 : Below w.heap.size w w0 := ((Below.refl _ _).alloc (Nat.le_refl _) _).trans (hb1.mono (by simp))
    have l1 : L.tb < w0.heap.size := Nat.lt_of_lt_of_le l0 hb2.size
    have ls := (Array.getElem?_eq_some_iff.1 nbo).1
    have k0' := (hb2.cell (p := ⟨L.tb, 0, none⟩) l0).trans c0
    have k1' := (hb2.cell (p := ⟨L.tb, 1, none⟩) l0).trans c1
    have k7' := (hb2.cell (p := ⟨L.tb, 7, none⟩) l0).trans c7
    have k8' := (hb2.cell (p := ⟨L.tb, 8, none⟩) l0).trans c8
    obtain ⟨f1, _⟩ := nb_facts nbo
    clear hb1 c0 c1 c7 c8 hch
    go_wp2_with fail
    refine (hlive.out _ hb2).mono ?_
    rintro e w2 ⟨rfl, rfl⟩
    clear hlive
    go_wp2
    go_ret2
    exact ⟨rfl, hb2⟩
  · have n1' : decide ((1 : Int) ≤ node) = false := by simp; omega
    rw [hc] at hch
    clear hc
    go_enter Tryz.func49, Tryz.ntmps49
    go_wp2_with fail
    refine (hch.out _).mono ?_
    rintro e w0 ⟨rfl, hb1⟩
    have nbo : w0.heap[w.heap.size]? = some (.cells #[I kind, I val, I node] 77 (0, 0)) := (hb1.block _ (by simp)).trans (nb_alloc _ _ _)
    have hb2 : Below w.heap.size w w0 := ((Below.refl _ _).alloc (Nat.le_refl _) _).trans (hb1.mono (by simp))
    have l1 : L.tb < w0.heap.size := Nat.lt_of_lt_of_le l0 hb2.size
    have ls := (Array.getElem?_eq_some_iff.1 nbo).1
    have k0' := (hb2.cell (p := ⟨L.tb, 0, none⟩) l0).trans c0
    have k1' := (hb2.cell (p := ⟨L.tb, 1, none⟩) l0).trans c1
    have k7' := (hb2.cell (p := ⟨L.tb, 7, none⟩) l0).trans c7
    have k8' := (hb2.cell (p := ⟨L.tb, 8, none⟩) l0).trans c8
    obtain ⟨f1, _⟩ := nb_facts nbo
    clear hb1 c0 c1 c7 c8 hch
    go_wp2_with fail
    go_quiet (fail)
    have hbq : Below w0.heap.size w0 (w0.drewN nq) := Below.drewN' (Below.refl _ _) nq
    have k7q := (hbq.cell (p := ⟨L.tb, 7, none⟩) l1).trans k7'
    have k8q := (hbq.cell (p := ⟨L.tb, 8, none⟩) l1).trans k8'
    have hb2q := hb2.trans (hbq.mono hb2.size)
    clear f1 nbo ls k0' k1' k7' k8' hb2 l1 hbq
    generalize w0.drewN nq = wq at *
    go_wp2_with fail
    refine (hlive.out _ hb2q).mono ?_
    rintro e w2 ⟨rfl, rfl⟩
    clear hlive
    go_wp2
    go_ret2
    exact ⟨rfl, hb2q⟩
  · have n2' : decide (node < (P2 : Int)) = false := by simp; omega
    rw [hc] at hch
    clear hc
    go_enter Tryz.func49, Tryz.ntmps49
    go_wp2_with fail
    refine (hch.out _).mono ?_
    rintro e w0 ⟨rfl, hb1⟩
    have nbo : w0.heap[w.heap.size]? = some (.cells #[I kind, I val, I node] 77 (0, 0)) := (hb1.block _ (by simp)).trans (nb_alloc _ _ _)
    have hb2 : Below w.heap.size w w0 := ((Below.refl _ _).alloc (Nat.le_refl _) _).trans (hb1.mono (by simp))
    have l1 : L.tb < w0.heap.size := Nat.lt_of_lt_of_le l0 hb2.size
    have ls := (Array.getElem?_eq_some_iff.1 nbo).1
    have k0' := (hb2.cell (p := ⟨L.tb, 0, none⟩) l0).trans c0
    have k1' := (hb2.cell (p := ⟨L.tb, 1, none⟩) l0).trans c1
    have k7' := (hb2.cell (p := ⟨L.tb, 7, none⟩) l0).trans c7
    have k8' := (hb2.cell (p := ⟨L.tb, 8, none⟩) l0).trans c8
    obtain ⟨f1, _⟩ := nb_facts nbo
    clear hb1 c0 c1 c7 c8 hch
    go_wp2_with fail
    go_quiet (fail)
    have hbq : Below w0.heap.size w0 (w0.drewN nq) := Below.drewN' (Below.refl _ _) nq
    have k7q := (hbq.cell (p := ⟨L.tb, 7, none⟩) l1).trans k7'
    have k8q := (hbq.cell (p := ⟨L.tb, 8, none⟩) l1).trans k8'
    have hb2q := hb2.trans (hbq.mono hb2.size)
    clear f1 nbo ls k0' k1' k7' k8' hb2 l1 hbq
    generalize w0.drewN nq = wq at *
    go_wp2_with fail
    refine (hlive.out _ hb2q).mono ?_
    rintro e w2 ⟨rfl, rfl⟩
    clear hlive
    go_wp2
    go_ret2
    exact ⟨rfl, hb2q⟩

set_option maxHeartbeats 8000000 in
theorem rspawn_err3 {w : World} {B : Nat} {L : Lay} (h : RefRep w B L) (o : Op3) (ho : okOp L.c o) (hn : L.procs.length = 256) (hd0 : 0 ≤ L.c.depth) (hd4 : L.c.depth ≤ 4) :
    Calls Tryz.prog 49 #[.pointer (some ⟨L.tb, 0, none⟩), opV o] w fun e w' => e = .returned (.tuple #[I 0, I 3]) ∧ Below w.heap.size w w' := by
  have hch := fun W => changes_c o W
  have hlive := fun W (hb : Below w.heap.size w W) => live_c (h.below hb)
  have c0 : w.cell? ⟨L.tb, 0, none⟩ = some (I L.c.kind) := by rw [block_cell h.tree]; rfl
  have c1 : w.cell? ⟨L.tb, 1, none⟩ = some (I L.c.depth) := by rw [block_cell h.tree]; rfl
  have c7 : w.cell? ⟨L.tb, 7, none⟩ = some (I L.c.procs) := by rw [block_cell h.tree]; rfl
  have c8 := h.pv_cell
  obtain ⟨ao, cap, e1, q1, q2, q3, hx⟩ := ownsRow_cells h.prow
  clear hx
  rw [e1] at c8
  have l0 := h.size
  obtain ⟨d, hd⟩ := Int.eq_ofNat_of_zero_le hd0
  rw [hd] at c1
  have hd4n : d ≤ 4 := by omega
  have hs := sh_one d (by omega)
  have hdn : L.c.depth.toNat = d := by omega
  have bn : ((L.procs.length : Int) == 256) = true := by rw [hn]; rfl
  have hways := okOp_ways L.c o ho
  rw [hdn] at hways
  obtain ⟨P2, hP2⟩ : ∃ P2 : Nat, P2 = 2 ^ d := ⟨_, rfl⟩
  rw [← hP2] at hs hways
  unfold maxLen at q2 q3
  unfold opV at hch ⊢
  replace hch : Hid _ := hch
  replace hlive : Hid _ := hlive
  clear h ho hP2 hdn hd hd0 hd4 e1 hn
  generalize L.c.kind = ck at *
  generalize L.c.procs = cp at *
  generalize liveL L.procs = lv at *
  obtain ⟨kind, val, node⟩ := o
  simp only at *
  rcases hways with ⟨b0, k0, hc⟩ | ⟨b0, b1, k1, hc⟩ | ⟨b0, b1, b2, k1, hc⟩ | ⟨b0, b1, b2, hc, n1, n2⟩
  · rw [hc] at hch
    clear hc
    go_enter Tryz.func49, Tryz.ntmps49
    go_wp2_with fail
    refine (hch.out _).mono ?_
    rintro e w0 ⟨rfl, hb1⟩
    have nbo : w0.heap[w.heap.size]? = some (.cells #[I kind, I val, I node] 77 (0, 0)) := (hb1.block _ (by simp)).trans (nb_alloc _ _ _)
    have hb2 : Below w.heap.size w w0 := ((Below.refl _ _).alloc (Nat.le_refl _) _).trans (hb1.mono (by simp))
    have l1 : L.tb < w0.heap.size := Nat.lt_of_lt_of_le l0 hb2.size
    have ls := (Array.getElem?_eq_some_iff.1 nbo).1
    have k0' := (hb2.cell (p := ⟨L.tb, 0, none⟩) l0).trans c0
    have k1' := (hb2.cell (p := ⟨L.tb, 1, none⟩) l0).trans c1
    have k7' := (hb2.cell (p := ⟨L.tb, 7, none⟩) l0).trans c7
    have k8' := (hb2.cell (p := ⟨L.tb, 8, none⟩) l0).trans c8
    obtain ⟨f1, _⟩ := nb_facts nbo
    clear hb1 c0 c1 c7 c8 hch
    go_wp2_with fail
    refine (hlive.out _ hb2).mono ?_
    rintro e w2 ⟨rfl, rfl⟩
    clear hlive
    go_wp2
    go_ret2
    exact ⟨rfl, hb2⟩
  · rw [hc] at hch
    clear hc
    go_enter Tryz.func49, Tryz.ntmps49
    go_wp2_with fail
    refine (hch.out _).mono ?_
    rintro e w0 ⟨rfl, hb1⟩
    have nbo : w0.heap[w.heap.size]? = some (.cells #[I kind, I val, I node] 77 (0, 0)) := (hb1.block _ (by simp)).trans (nb_alloc _ _ _)
    have hb2 : Below w.heap.size w w0 := ((Below.refl _ _).alloc (Nat.le_refl _) _).trans (hb1.mono (by simp))
    have l1 : L.tb < w0.heap.size := Nat.lt_of_lt_of_le l0 hb2.size
    have ls := (Array.getElem?_eq_some_iff.1 nbo).1
    have k0' := (hb2.cell (p := ⟨L.tb, 0, none⟩) l0).trans c0
    have k1' := (hb2.cell (p := ⟨L.tb, 1, none⟩) l0).trans c1
    have k7' := (hb2.cell (p := ⟨L.tb, 7, none⟩) l0).trans c7
    have k8' := (hb2.cell (p := ⟨L.tb, 8, none⟩) l0).trans c8
    obtain ⟨f1, _⟩ := nb_facts nbo
    clear hb1 c0 c1 c7 c8 hch
    go_wp2_with fail
    refine (hlive.out _ hb2).mono ?_
    rintro e w2 ⟨rfl, rfl⟩
    clear hlive
    go_wp2
    go_ret2
    exact ⟨rfl, hb2⟩
  · rw [hc] at hch
    clear hc
    go_enter Tryz.func49, Tryz.ntmps49
    go_wp2_with fail
    refine (hch.out _).mono ?_
    rintro e w0 ⟨rfl, hb1⟩
    have nbo : w0.heap[w.heap.size]? = some (.cells #[I kind, I val, I node] 77 (0, 0)) := (hb1.block _ (by simp)).trans (nb_alloc _ _ _)
    have hb2 : Below w.heap.size w w0 := ((Below.refl _ _).alloc (Nat.le_refl _) _).trans (hb1.mono (by simp))
    have l1 : L.tb < w0.heap.size := Nat.lt_of_lt_of_le l0 hb2.size
    have ls := (Array.getElem?_eq_some_iff.1 nbo).1
    have k0' := (hb2.cell (p := ⟨L.tb, 0, none⟩) l0).trans c0
    have k1' := (hb2.cell (p := ⟨L.tb, 1, none⟩) l0).trans c1
    have k7' := (hb2.cell (p := ⟨L.tb, 7, none⟩) l0).trans c7
    have k8' := (hb2.cell (p := ⟨L.tb, 8, none⟩) l0).trans c8
    obtain ⟨f1, _⟩ := nb_facts nbo
    clear hb1 c0 c1 c7 c8 hch
    go_wp2_with fail
    refine (hlive.out _ hb2).mono ?_
    rintro e w2 ⟨rfl, rfl⟩
    clear hlive
    go_wp2
    go_ret2
    exact ⟨rfl, hb2⟩
  · rw [hc] at hch
    clear hc
    go_enter Tryz.func49, Tryz.ntmps49
    go_wp2_with fail
    refine (hch.out _).mono ?_
    rintro e w0 ⟨rfl, hb1⟩
    have nbo : w0.heap[w.heap.size]? = some (.cells #[I kind, I val, I node] 77 (0, 0)) := (hb1.block _ (by simp)).trans (nb_alloc _ _ _)
    have hb2 : Below w.heap.size w w0 := ((Below.refl _ _).alloc (Nat.le_refl _) _).trans (hb1.mono (by simp))
    have l1 : L.tb < w0.heap.size := Nat.lt_of_lt_of_le l0 hb2.size
    have ls := (Array.getElem?_eq_some_iff.1 nbo).1
    have k0' := (hb2.cell (p := ⟨L.tb, 0, none⟩) l0).trans c0
    have k1' := (hb2.cell (p := ⟨L.tb, 1, none⟩) l0).trans c1
    have k7' := (hb2.cell (p := ⟨L.tb, 7, none⟩) l0).trans c7
    have k8' := (hb2.cell (p := ⟨L.tb, 8, none⟩) l0).trans c8
    obtain ⟨f1, _⟩ := nb_facts nbo
    clear hb1 c0 c1 c7 c8 hch
    go_wp2_with fail
    go_quiet (fail)
    have hbq : Below w0.heap.size w0 (w0.drewN nq) := Below.drewN' (Below.refl _ _) nq
    have k7q := (hbq.cell (p := ⟨L.tb, 7, none⟩) l1).trans k7'
    have k8q := (hbq.cell (p := ⟨L.tb, 8, none⟩) l1).trans k8'
    have hb2q := hb2.trans (hbq.mono hb2.size)
    clear f1 nbo ls k0' k1' k7' k8' hb2 l1 hbq
    generalize w0.drewN nq = wq at *
    go_wp2_with fail
    refine (hlive.out _ hb2q).mono ?_
    rintro e w2 ⟨rfl, rfl⟩
    clear hlive
    go_wp2
    go_ret2
    exact ⟨rfl, hb2q⟩

set_option maxHeartbeats 8000000 in
theorem rspawn_err4 {w : World} {B : Nat} {L : Lay} (h : RefRep w B L) (o : Op3) (ho : okOp L.c o) (hn : L.procs.length < 256) (hlv : (liveL L.procs : Int) = L.c.procs) (hd0 : 0 ≤ L.c.depth) (hd4 : L.c.depth ≤ 4) :
    Calls Tryz.prog 49 #[.pointer (some ⟨L.tb, 0, none⟩), opV o] w fun e w' => e = .returned (.tuple #[I 0, I 4]) ∧ Below w.heap.size w w' := by
  have hch := fun W => changes_c o W
  have hlive := fun W (hb : Below w.heap.size w W) => live_c (h.below hb)
  have c0 : w.cell? ⟨L.tb, 0, none⟩ = some (I L.c.kind) := by rw [block_cell h.tree]; rfl
  have c1 : w.cell? ⟨L.tb, 1, none⟩ = some (I L.c.depth) := by rw [block_cell h.tree]; rfl
  have c7 : w.cell? ⟨L.tb, 7, none⟩ = some (I L.c.procs) := by rw [block_cell h.tree]; rfl
  have c8 := h.pv_cell
  obtain ⟨ao, cap, e1, q1, q2, q3, hx⟩ := ownsRow_cells h.prow
  clear hx
  rw [e1] at c8
  have l0 := h.size
  obtain ⟨d, hd⟩ := Int.eq_ofNat_of_zero_le hd0
  rw [hd] at c1
  have hd4n : d ≤ 4 := by omega
  have hs := sh_one d (by omega)
  have hdn : L.c.depth.toNat = d := by omega
  have bn : ((L.procs.length : Int) == 256) = false := by simp; omega
  have bl : ((liveL L.procs : Int) == L.c.procs) = true := by simpa using hlv
  have hways := okOp_ways L.c o ho
  rw [hdn] at hways
  obtain ⟨P2, hP2⟩ : ∃ P2 : Nat, P2 = 2 ^ d := ⟨_, rfl⟩
  rw [← hP2] at hs hways
  unfold maxLen at q2 q3
  unfold opV at hch ⊢
  replace hch : Hid _ := hch
  replace hlive : Hid _ := hlive
  clear h ho hP2 hdn hd hd0 hd4 e1 hlv
  generalize L.c.kind = ck at *
  generalize L.c.procs = cp at *
  generalize liveL L.procs = lv at *
  obtain ⟨kind, val, node⟩ := o
  simp only at *
  rcases hways with ⟨b0, k0, hc⟩ | ⟨b0, b1, k1, hc⟩ | ⟨b0, b1, b2, k1, hc⟩ | ⟨b0, b1, b2, hc, n1, n2⟩
  · rw [hc] at hch
    clear hc
    go_enter Tryz.func49, Tryz.ntmps49
    go_wp2_with fail
    refine (hch.out _).mono ?_
    rintro e w0 ⟨rfl, hb1⟩
    have nbo : w0.heap[w.heap.size]? = some (.cells #[I kind, I val, I node] 77 (0, 0)) := (hb1.block _ (by simp)).trans (nb_alloc _ _ _)
    have hb2 : Below w.heap.size w w0 := ((Below.refl _ _).alloc (Nat.le_refl _) _).trans (hb1.mono (by simp))
    have l1 : L.tb < w0.heap.size := Nat.lt_of_lt_of_le l0 hb2.size
    have ls := (Array.getElem?_eq_some_iff.1 nbo).1
    have k0' := (hb2.cell (p := ⟨L.tb, 0, none⟩) l0).trans c0
    have k1' := (hb2.cell (p := ⟨L.tb, 1, none⟩) l0).trans c1
    have k7' := (hb2.cell (p := ⟨L.tb, 7, none⟩) l0).trans c7
    have k8' := (hb2.cell (p := ⟨L.tb, 8, none⟩) l0).trans c8
    obtain ⟨f1, _⟩ := nb_facts nbo
    clear hb1 c0 c1 c7 c8 hch
    go_wp2_with fail
    refine (hlive.out _ hb2).mono ?_
    rintro e w2 ⟨rfl, rfl⟩
    clear hlive
    go_wp2
    go_ret2
    exact ⟨rfl, hb2⟩
  · rw [hc] at hch
    clear hc
    go_enter Tryz.func49, Tryz.ntmps49
    go_wp2_with fail
    refine (hch.out _).mono ?_
    rintro e w0 ⟨rfl, hb1⟩
    have nbo : w0.heap[w.heap.size]? = some (.cells #[I kind, I val, I node] 77 (0, 0)) := (hb1.block _ (by simp)).trans (nb_alloc _ _ _)
    have hb2 : Below w.heap.size w w0 := ((Below.refl _ _).alloc (Nat.le_refl _) _).trans (hb1.mono (by simp))
    have l1 : L.tb < w0.heap.size := Nat.lt_of_lt_of_le l0 hb2.size
    have ls := (Array.getElem?_eq_some_iff.1 nbo).1
    have k0' := (hb2.cell (p := ⟨L.tb, 0, none⟩) l0).trans c0
    have k1' := (hb2.cell (p := ⟨L.tb, 1, none⟩) l0).trans c1
    have k7' := (hb2.cell (p := ⟨L.tb, 7, none⟩) l0).trans c7
    have k8' := (hb2.cell (p := ⟨L.tb, 8, none⟩) l0).trans c8
    obtain ⟨f1, _⟩ := nb_facts nbo
    clear hb1 c0 c1 c7 c8 hch
    go_wp2_with fail
    refine (hlive.out _ hb2).mono ?_
    rintro e w2 ⟨rfl, rfl⟩
    clear hlive
    go_wp2
    go_ret2
    exact ⟨rfl, hb2⟩
  · rw [hc] at hch
    clear hc
    go_enter Tryz.func49, Tryz.ntmps49
    go_wp2_with fail
    refine (hch.out _).mono ?_
    rintro e w0 ⟨rfl, hb1⟩
    have nbo : w0.heap[w.heap.size]? = some (.cells #[I kind, I val, I node] 77 (0, 0)) := (hb1.block _ (by simp)).trans (nb_alloc _ _ _)
    have hb2 : Below w.heap.size w w0 := ((Below.refl _ _).alloc (Nat.le_refl _) _).trans (hb1.mono (by simp))
    have l1 : L.tb < w0.heap.size := Nat.lt_of_lt_of_le l0 hb2.size
    have ls := (Array.getElem?_eq_some_iff.1 nbo).1
    have k0' := (hb2.cell (p := ⟨L.tb, 0, none⟩) l0).trans c0
    have k1' := (hb2.cell (p := ⟨L.tb, 1, none⟩) l0).trans c1
    have k7' := (hb2.cell (p := ⟨L.tb, 7, none⟩) l0).trans c7
    have k8' := (hb2.cell (p := ⟨L.tb, 8, none⟩) l0).trans c8
    obtain ⟨f1, _⟩ := nb_facts nbo
    clear hb1 c0 c1 c7 c8 hch
    go_wp2_with fail
    refine (hlive.out _ hb2).mono ?_
    rintro e w2 ⟨rfl, rfl⟩
    clear hlive
    go_wp2
    go_ret2
    exact ⟨rfl, hb2⟩
  · rw [hc] at hch
    clear hc
    go_enter Tryz.func49, Tryz.ntmps49
    go_wp2_with fail
    refine (hch.out _).mono ?_
    rintro e w0 ⟨rfl, hb1⟩
    have nbo : w0.heap[w.heap.size]? = some (.cells #[I kind, I val, I node] 77 (0, 0)) := (hb1.block _ (by simp)).trans (nb_alloc _ _ _)
    have hb2 : Below w.heap.size w w0 := ((Below.refl _ _).alloc (Nat.le_refl _) _).trans (hb1.mono (by simp))
    have l1 : L.tb < w0.heap.size := Nat.lt_of_lt_of_le l0 hb2.size
    have ls := (Array.getElem?_eq_some_iff.1 nbo).1
    have k0' := (hb2.cell (p := ⟨L.tb, 0, none⟩) l0).trans c0
    have k1' := (hb2.cell (p := ⟨L.tb, 1, none⟩) l0).trans c1
    have k7' := (hb2.cell (p := ⟨L.tb, 7, none⟩) l0).trans c7
    have k8' := (hb2.cell (p := ⟨L.tb, 8, none⟩) l0).trans c8
    obtain ⟨f1, _⟩ := nb_facts nbo
    clear hb1 c0 c1 c7 c8 hch
    go_wp2_with fail
    go_quiet (fail)
    have hbq : Below w0.heap.size w0 (w0.drewN nq) := Below.drewN' (Below.refl _ _) nq
    have k7q := (hbq.cell (p := ⟨L.tb, 7, none⟩) l1).trans k7'
    have k8q := (hbq.cell (p := ⟨L.tb, 8, none⟩) l1).trans k8'
    have hb2q := hb2.trans (hbq.mono hb2.size)
    clear f1 nbo ls k0' k1' k7' k8' hb2 l1 hbq
    generalize w0.drewN nq = wq at *
    go_wp2_with fail
    refine (hlive.out _ hb2q).mono ?_
    rintro e w2 ⟨rfl, rfl⟩
    clear hlive
    go_wp2
    go_ret2
    exact ⟨rfl, hb2q⟩

end Go.Proofs.YtjnmpejcegmkhaaGreatDoor

namespace Go.Proofs.YtjnmpejcegmkhaaGreatDoor
open Go.RowKit

structure PNew (c : Conf) (L : PLay) : Prop where
  conf : L.c = c
  procs : L.procs = []
  nodes : ∀ v, 1 ≤ v → v < 32 → L.nodes.getD v zeroPN = newPN (2 ^ c.start.toNat) v

def zTail : List Value := (List.replicate 32 zeroPN).flatMap pnCells ++ [Value.slice none 0 0]
theorem zTail_tree (b : Nat) (c : Conf) : pTree ⟨b, c, List.replicate 32 zeroPN, .slice none 0 0, []⟩ = pConf c ++ zTail := rfl

theorem zero_cells : Tryz.zeroCells61 = (pTree ⟨0, ⟨0, 0, 0, 0, 0, 0, 0, 0⟩, List.replicate 32 zeroPN, .slice none 0 0, []⟩).toArray := by kernel_rfl

theorem zero_set (c : Conf) : ((((((((Tryz.zeroCells61.setIfInBounds 0 (I c.kind)).setIfInBounds 1 (I c.depth)).setIfInBounds 2 (I c.start)).setIfInBounds 3 (I c.slots)).setIfInBounds 4 (I c.width)).setIfInBounds 5 (I c.spin)).setIfInBounds 6 (I c.drain)).setIfInBounds 7 (I c.procs)) = (pConf c ++ zTail).toArray := by
  rw [zero_cells, zTail_tree]
  generalize zTail = r
  simp only [List.setIfInBounds_toArray, pConf, List.cons_append, List.nil_append, List.set_cons_zero, List.set_cons_succ]

set_option maxHeartbeats 4000000 in
theorem pnew_no (c : Conf) (w : World) (h : mayC c = false) : Calls Tryz.prog 7 #[confV c] w fun e w' => e = .returned (.tuple #[.pointer none, I 1]) ∧ Below w.heap.size w w' := by
  have hm := isConfig_c c (w.alloc (.cells #[I c.kind, I c.depth, I c.start, I c.slots, I c.width, I c.spin, I c.drain, I c.procs] 23))
  rw [h] at hm
  unfold confV at hm ⊢
  clear h
  go_enter Tryz.func7, Tryz.ntmps7
  go_wp2_with fail
  refine hm.mono ?_
  rintro e w1 ⟨rfl, hb1⟩
  go_wp2_with fail
  go_ret2
  exact ⟨rfl, ((Below.refl _ _).alloc (Nat.le_refl _) _).trans (hb1.mono (by simp))⟩

set_option maxHeartbeats 4000000 in
theorem pnew_yes (c : Conf) (w : World) (h : mayC c = true) : Calls Tryz.prog 7 #[confV c] w fun e w' => ∃ L, e = .returned (.tuple #[.pointer (some ⟨L.tb, 0, none⟩), I 0]) ∧ PRep w' w.heap.size L ∧ PNew c L ∧ Below w.heap.size w w' := by
  have hm := isConfig_c c (w.alloc (.cells #[I c.kind, I c.depth, I c.start, I c.slots, I c.width, I c.spin, I c.drain, I c.procs] 23))
  rw [h] at hm
  have hc : 0 ≤ c.start ∧ c.start ≤ 4 := by simp [mayC] at h; omega
  obtain ⟨s, hs⟩ := Int.eq_ofNat_of_zero_le hc.1
  have hs4 : s ≤ 4 := by omega
  have HS : Hid (c.start = s) := hs
  unfold confV at hm ⊢
  clear h hc hs
  go_enter Tryz.func7, Tryz.ntmps7
  go_wp2_with fail
  refine hm.mono ?_
  rintro e w1 ⟨rfl, hb1⟩
  have nb1 : w1.heap[w.heap.size]? = some (.cells #[I c.kind, I c.depth, I c.start, I c.slots, I c.width, I c.spin, I c.drain, I c.procs] 23 (0, 0)) := (hb1.block _ (by simp)).trans (nb_alloc _ _ _)
  have hb2 : Below w.heap.size w w1 := ((Below.refl _ _).alloc (Nat.le_refl _) _).trans (hb1.mono (by simp))
  clear hb1 hm
  obtain ⟨f1, _⟩ := nb_facts nb1
  go_wp2_with fail
  rw [zero_set c]
  have hrep : PRep (w1.alloc (.cells (pConf c ++ zTail).toArray 61)) w.heap.size ⟨w1.heap.size, c, List.replicate 32 zeroPN, .slice none 0 0, []⟩ := by
    refine ⟨by rw [zTail_tree]; exact nb_alloc _ _ _, hb2.size, List.length_replicate, World.ownsRow_nil _ _ _ _, fun v hv => ?_, fun u v hu hv g e1 _ => ?_⟩
    · simp only [List.getElem_replicate]
      exact World.ownsRow_nil _ _ _ _
    · simp only [List.getElem_replicate] at e1
      exact absurd e1 (by simp [zeroPN, Value.ownBlock])
  have hpl := plant_c hrep s HS.out hs4 rfl
  have hb3 := hb2.alloc hb2.size (.cells (pConf c ++ zTail).toArray 61)
  generalize w1.alloc (.cells (pConf c ++ zTail).toArray 61) = w2 at *
  refine hpl.mono ?_
  rintro e w3 ⟨rfl, ⟨L, hrep2, hm2⟩, hb4⟩
  clear f1 nb1 hrep hpl
  go_wp2
  go_ret2
  have htb : L.tb = w1.heap.size := hm2.tb
  exact ⟨L, by rw [htb]; rfl, hrep2, ⟨hm2.c, hm2.procs, fun v h1 h2 => by rw [hm2.nodes v h1 h2, if_pos h2, HS.out]; rfl⟩, hb3.trans hb4⟩

theorem filterMap_range_more {α : Type} (f : Nat → Option α) (n m : Nat) (h : n ≤ m) (hf : ∀ v, n ≤ v → v < m → f v = none) : (List.range m).filterMap f = (List.range n).filterMap f := by
  induction m with
  | zero => have : n = 0 := by omega
            subst this; rfl
  | succ m ih =>
    by_cases e : n = m + 1
    · subst e; rfl
    · rw [List.range_succ, List.filterMap_append, ih (by omega) (fun v h1 h2 => hf v h1 (by omega))]
      simp [hf m (by omega) (by omega)]

theorem filterMap_range_congr {α : Type} (f g : Nat → Option α) (n : Nat) (h : ∀ v, v < n → f v = g v) : (List.range n).filterMap f = (List.range n).filterMap g := by
  induction n with
  | zero => rfl
  | succ n ih =>
    rw [List.range_succ, List.filterMap_append, List.filterMap_append, ih (fun v hv => h v (by omega))]
    simp only [List.filterMap_cons, List.filterMap_nil, h n (by omega)]

end Go.Proofs.YtjnmpejcegmkhaaGreatDoor

namespace Go.Proofs.YtjnmpejcegmkhaaGreatDoor
open Go.RowKit

theorem climb_zero (f v : Nat) : climb f 0 v = 0 := by cases f <;> simp [climb]

end Go.Proofs.YtjnmpejcegmkhaaGreatDoor

namespace Go.Proofs.YtjnmpejcegmkhaaGreatDoor
open Go.RowKit

abbrev Ps := List (Nat × Pr)

def sgn (k : Int) : Int := if k = 2 then -1 else if k = 0 ∨ k = 1 then 1 else 0
def kindAt (ps : Ps) (m : Int) : Int := ((ps[m.toNat]?).map fun x => x.2.kind).getD (-1)
/-- Who waits and was met. -/
def metB (p : Pr) : Bool := (decide (p.phase = 6) || decide (p.phase = 7)) && decide (0 ≤ p.met)
/-- What a process counts as long as it has taken no ticket, and is not on its way out. -/
def tokP (ps : Ps) (p : Pr) : Int := if p.phase ≤ 12 then (if metB p = true ∧ kindAt ps p.met ≠ p.kind then 0 else sgn p.kind) else 0
/-- Who waits at u and was met by one of its kind: that one has gone to child 1. -/
def wcP (ps : Ps) (u : Nat) (p : Pr) : Int := if p.node = (u : Int) ∧ metB p = true ∧ kindAt ps p.met = p.kind then sgn p.kind else 0
/-- 1: below child 0 of u; -1: below child 1. -/
def side (u w : Nat) : Int := if climb 6 w (2 * u) = 2 * u then 1 else if climb 6 w (2 * u + 1) = 2 * u + 1 then -1 else 0
def eP (ps : Ps) (u : Nat) (p : Pr) : Int := side u p.node.toNat * tokP ps p + wcP ps u p
def sumP (f : Pr → Int) : Ps → Int
  | [] => 0
  | x :: r => f x.2 + sumP f r
def sumN (f : Nat → Int) : Nat → Int
  | 0 => 0
  | n + 1 => sumN f n + f n
def balH (l : Hist) : Int := if formH l = 2 then putsH l - manyH 7 (-1) l else 0
def evenS (ps : Ps) (H : Nat → Hist) (N u : Nat) : Int := sumN (fun w => side u w * balH (H w)) N + sumP (eP ps u) ps
def stP (u : Nat) (p : Pr) : Int := if p.node = (u : Int) then (if p.phase = 13 then 1 else if p.phase = 14 then -1 else 0) else 0
def tickP (p : Pr) : Int := if p.phase = 13 ∨ p.phase = 14 ∨ p.phase = 19 ∨ p.phase = 20 then 1 else 0
def putN (l : Hist) : Int := if formH l = 2 then putsH l else 0
/-- v lies above o. -/
abbrev above (v o : Nat) : Prop := v < o ∧ climb 6 o v = v

theorem sumP_set (f : Pr → Int) : ∀ (ps : Ps) (i : Nat) (hi : i < ps.length) (x : Nat × Pr), sumP f (ps.set i x) = sumP f ps - f (ps[i]).2 + f x.2
  | [], i, hi, _ => by simp at hi
  | y :: r, 0, _, x => by simp only [List.set_cons_zero, sumP, List.getElem_cons_zero]; omega
  | y :: r, i + 1, hi, x => by
    have := sumP_set f r i (by simpa using hi) x
    simp only [List.set_cons_succ, sumP, List.getElem_cons_succ]
    omega
theorem sumP_congr (f g : Pr → Int) : ∀ (ps : Ps), (∀ i, (hi : i < ps.length) → f (ps[i]).2 = g (ps[i]).2) → sumP f ps = sumP g ps
  | [], _ => rfl
  | y :: r, h => by
    have h0 := h 0 (by simp)
    simp only [List.getElem_cons_zero] at h0
    have := sumP_congr f g r fun i hi => by have := h (i + 1) (by simpa using hi); simpa using this
    simp only [sumP, h0, this]
theorem sumP_zero (f : Pr → Int) (ps : Ps) (h : ∀ i, (hi : i < ps.length) → f (ps[i]).2 = 0) : sumP f ps = 0 := by
  induction ps with
  | nil => rfl
  | cons y r ih =>
    have h0 := h 0 (by simp)
    simp only [List.getElem_cons_zero] at h0
    have := ih fun i hi => by have := h (i + 1) (by simpa using hi); simpa using this
    simp only [sumP, h0, this, Int.add_zero]
theorem sumP_le (f : Pr → Int) (ps : Ps) (h : ∀ i, (hi : i < ps.length) → f (ps[i]).2 ≤ 1) : sumP f ps ≤ ps.length := by
  induction ps with
  | nil => simp [sumP]
  | cons y r ih =>
    have h0 := h 0 (by simp)
    simp only [List.getElem_cons_zero] at h0
    have := ih fun i hi => by have := h (i + 1) (by simpa using hi); simpa using this
    simp only [sumP, List.length_cons]
    omega
theorem sumP_app (f : Pr → Int) : ∀ (a b : Ps), sumP f (a ++ b) = sumP f a + sumP f b
  | [], b => by simp [sumP]
  | x :: a, b => by simp only [List.cons_append, sumP, sumP_app f a b]; omega
theorem sumN_congr (f g : Nat → Int) : ∀ n, (∀ k, k < n → f k = g k) → sumN f n = sumN g n
  | 0, _ => rfl
  | n + 1, h => by simp only [sumN, sumN_congr f g n (fun k hk => h k (by omega)), h n (by omega)]
theorem sumN_upd (f g : Nat → Int) (v : Nat) : ∀ n, v < n → (∀ k, k < n → k ≠ v → g k = f k) → sumN g n = sumN f n - f v + g v
  | 0, hv, _ => by omega
  | n + 1, hv, h => by
    simp only [sumN]
    by_cases e : v = n
    · subst e
      rw [sumN_congr g f v fun k hk => h k (by omega) (by omega)]
      omega
    · rw [sumN_upd f g v n (by omega) fun k hk hne => h k (by omega) hne, h n (by omega) (by omega)]
      omega
theorem sumN_nonneg (f : Nat → Int) : ∀ n, (∀ k, k < n → 0 ≤ f k) → 0 ≤ sumN f n
  | 0, _ => by simp [sumN]
  | n + 1, h => by
    have := sumN_nonneg f n fun k hk => h k (by omega)
    have := h n (by omega)
    simp only [sumN]
    omega
theorem sumN_ge (f : Nat → Int) (v : Nat) : ∀ n, v < n → (∀ k, k < n → 0 ≤ f k) → f v ≤ sumN f n
  | 0, hv, _ => by omega
  | n + 1, hv, h => by
    have h0 := h n (by omega)
    simp only [sumN]
    by_cases e : v = n
    · subst e
      have := sumN_nonneg f v fun k hk => h k (by omega)
      omega
    · have := sumN_ge f v n (by omega) fun k hk => h k (by omega)
      omega
theorem sumN_zero (f : Nat → Int) : ∀ n, (∀ k, k < n → f k = 0) → sumN f n = 0
  | 0, _ => rfl
  | n + 1, h => by simp only [sumN, sumN_zero f n (fun k hk => h k (by omega)), h n (by omega), Int.add_zero]

theorem side_kid : ∀ u : Fin 32, ∀ v : Fin 32, 1 ≤ u.1 → 1 ≤ v.1 → side u.1 (2 * v.1) = (if u.1 = v.1 then 1 else side u.1 v.1) ∧ side u.1 (2 * v.1 + 1) = (if u.1 = v.1 then -1 else side u.1 v.1) := by decide +kernel
theorem side_self : ∀ u : Fin 32, 1 ≤ u.1 → side u.1 u.1 = 0 := by decide +kernel
theorem side_root : ∀ u : Fin 32, 1 ≤ u.1 → side u.1 1 = 0 := by decide +kernel
theorem side_holds : ∀ u : Fin 32, ∀ w : Fin 64, 1 ≤ u.1 → side u.1 w.1 ≠ 0 → climb 6 w.1 u.1 = u.1 ∧ climb 6 (w.1 / 2) u.1 = u.1 := by decide +kernel
theorem climb_half : ∀ v : Fin 64, 1 ≤ v.1 → climb 6 (v.1 / 2) v.1 ≠ v.1 := by decide +kernel

theorem kindAt_set {ps : Ps} {i : Nat} (hi : i < ps.length) {x : Nat × Pr} (hk : x.2.kind = (ps[i]).2.kind) (m : Int) : kindAt (ps.set i x) m = kindAt ps m := by
  unfold kindAt
  by_cases e : m.toNat = i
  · rw [e, List.getElem?_set_self hi, List.getElem?_eq_getElem hi]
    simp [hk]
  · rw [List.getElem?_set_ne (Ne.symm e)]
theorem eP_set {ps : Ps} {i : Nat} (hi : i < ps.length) {x : Nat × Pr} (hk : x.2.kind = (ps[i]).2.kind) (u : Nat) (p : Pr) : eP (ps.set i x) u p = eP ps u p := by
  unfold eP tokP wcP
  rw [kindAt_set hi hk]

structure CQ (c : Conf) (H : Nat → Hist) (p : Pr) : Prop where
  kinds : 0 ≤ p.kind ∧ p.kind ≤ 4
  walk : p.kind < 3 → ¬ (15 ≤ p.phase ∧ p.phase ≤ 18)
  chg : 3 ≤ p.kind → 1 ≤ p.onode ∧ p.onode.toNat < 2 ^ c.depth.toNat ∧ (((p.phase = 0 ∨ p.phase = 1 ∨ p.phase = 2) ∧ above p.node.toNat p.onode.toNat) ∨ (15 ≤ p.phase ∧ p.phase ≤ 18 ∧ p.node = p.onode) ∨ p.phase = 19 ∨ p.phase = 20)
  gform : 16 ≤ p.phase → p.phase ≤ 18 → formH (H p.node.toNat) = if p.kind = 3 then 1 else 2

structure CInv (c : Conf) (ps : Ps) (H : Nat → Hist) (N : Nat) (d : Nat → Int) : Prop where
  cq : ∀ i, (hi : i < ps.length) → CQ c H (ps[i]).2
  gate : ∀ i j, (hi : i < ps.length) → (hj : j < ps.length) → 16 ≤ (ps[i]).2.phase → (ps[i]).2.phase ≤ 18 → 16 ≤ (ps[j]).2.phase → (ps[j]).2.phase ≤ 18 → (ps[i]).2.node = (ps[j]).2.node → i = j
  calm : ∀ i j, (hi : i < ps.length) → (hj : j < ps.length) → (ps[i]).2.phase = 17 → holdsP (ps[i]).2.node.toNat (ps[j]).2 = true → (ps[j]).2.node = (ps[i]).2.node ∧ ((ps[j]).2.phase = 1 ∨ (ps[j]).2.phase = 2)
  par : ∀ v, 2 ≤ v → v < N → formH (H v) ≠ 3 → formH (H (v / 2)) = 1
  even : ∀ u, 1 ≤ u → u < N → formH (H u) = 1 → evenS ps H N u = togH (H u) + d u
  lies : c.kind = 1 → ∀ u, 1 ≤ u → u < N → formH (H u) = 2 → ((itemsH (H u)).length : Int) + sumP (stP u) ps = balH (H u)
  sum : sumN (fun w => putN (H w)) N ≤ sumP tickP ps
  nog : c.kind = 0 → ∀ u, u < N → manyH 7 (-1) (H u) = 0

theorem CInv.gnode {c : Conf} {ps : Ps} {H : Nat → Hist} {N : Nat} {d : Nat → Int} (h : CInv c ps H N d) (hN : N = 2 ^ (c.depth.toNat + 1)) {i : Nat} (hi : i < ps.length) (h1 : 15 ≤ (ps[i]).2.phase) (h2 : (ps[i]).2.phase ≤ 18) : ∃ u : Nat, (ps[i]).2.node = (u : Int) ∧ (ps[i]).2.onode = (u : Int) ∧ 1 ≤ u ∧ 2 * u + 1 < N := by
  have q := h.cq i hi
  have hk : 3 ≤ (ps[i]).2.kind := by
    have := q.walk
    have := q.kinds
    by_cases e : (ps[i]).2.kind < 3
    · exact absurd ⟨h1, h2⟩ (q.walk e)
    · omega
  obtain ⟨a1, a2, a3⟩ := q.chg hk
  have e : (ps[i]).2.node = (ps[i]).2.onode := by
    rcases a3 with a3 | a3 | a3
    · omega
    · exact a3.2.2
    · omega
  refine ⟨(ps[i]).2.onode.toNat, by omega, by omega, by omega, ?_⟩
  rw [hN, Nat.pow_succ]
  omega

structure CMove (c : Conf) (ps : Ps) (H H' : Nat → Hist) (N : Nat) (d d' : Nat → Int) (v : Nat) (p p' : Pr) (i : Nat) : Prop where
  at' : p.node = (v : Int)
  v1 : 1 ≤ v
  vN : v < N
  hH : ∀ u, u ≠ v → H' u = H u
  form : formH (H' v) = formH (H v)
  kind : p'.kind = p.kind
  cq : CQ c H p'
  gate : 16 ≤ p'.phase → p'.phase ≤ 18 → p'.node = (v : Int) ∧ ((16 ≤ p.phase ∧ p.phase ≤ 18) ∨ ∀ j, (hj : j < ps.length) → shutP v (ps[j]).2 = false)
  hol : ∀ u, 1 ≤ u → u < N → u ≠ v → holdsP u p' = holdsP u p
  calm1 : p'.phase = 17 → ∀ j, (hj : j < ps.length) → j ≠ i → holdsP v (ps[j]).2 = true → (ps[j]).2.node = (v : Int) ∧ ((ps[j]).2.phase = 1 ∨ (ps[j]).2.phase = 2)
  calm2 : (∃ j, ∃ hj : j < ps.length, j ≠ i ∧ shutP v (ps[j]).2 = true) → (holdsP v p = true → p.phase = 1 ∨ p.phase = 2) → holdsP v p' = true → p'.node = (v : Int) ∧ (p'.phase = 1 ∨ p'.phase = 2)
  even : ∀ u, 1 ≤ u → u < N → formH (H u) = 1 → eP ps u p' - eP ps u p + side u v * (balH (H' v) - balH (H v)) + d u = togH (H' u) - togH (H u) + d' u
  lies : c.kind = 1 → formH (H v) = 2 → ((itemsH (H' v)).length : Int) + stP v p' - (itemsH (H v)).length - stP v p = balH (H' v) - balH (H v)
  lies2 : ∀ u, u ≠ v → stP u p' = 0
  sum : putN (H' v) - putN (H v) ≤ tickP p' - tickP p
  nog : c.kind = 0 → manyH 7 (-1) (H v) = 0 → manyH 7 (-1) (H' v) = 0

theorem shutL_of {v : Int} {ps : Ps} {j : Nat} (hj : j < ps.length) (h : shutP v (ps[j]).2 = true) : shutL v ps = true := by
  induction ps generalizing j with
  | nil => simp at hj
  | cons y r ih =>
    simp only [shutL]
    cases j with
    | zero => simp only [List.getElem_cons_zero] at h; rw [h]; rfl
    | succ j =>
      simp only [List.getElem_cons_succ] at h
      rw [ih (by simpa using hj) h]
      simp

theorem CInv.move {c : Conf} {ps : Ps} {H H' : Nat → Hist} {N : Nat} {d d' : Nat → Int} (h : CInv c ps H N d) (hN : N = 2 ^ (c.depth.toNat + 1)) (hN32 : N ≤ 32) {i v : Nat} (hi : i < ps.length) {pb : Nat} {p' : Pr} (m : CMove c ps H H' N d d' v (ps[i]).2 p' i) :
    CInv c (ps.set i (pb, p')) H' N d' := by
  have hff : ∀ u, formH (H' u) = formH (H u) := by
    intro u
    by_cases e : u = v
    · subst e; exact m.form
    · rw [m.hH u e]
  have hlen : (ps.set i (pb, p')).length = ps.length := List.length_set
  have hget : ∀ j, (hj : j < ps.length) → (hj' : j < (ps.set i (pb, p')).length) → j ≠ i → (ps.set i (pb, p'))[j] = ps[j] := fun j hj hj' hne => by simp only [List.getElem_set_ne (Ne.symm hne)]
  have hgi : ∀ hi' : i < (ps.set i (pb, p')).length, (ps.set i (pb, p'))[i] = (pb, p') := fun hi' => by simp only [List.getElem_set_self]
  have hcq : ∀ q : Pr, CQ c H q → CQ c H' q := fun q a => ⟨a.kinds, a.walk, a.chg, fun x y => by rw [hff]; exact a.gform x y⟩
  have gsh : ∀ j, (hj : j < ps.length) → 16 ≤ (ps[j]).2.phase → (ps[j]).2.phase ≤ 18 → (ps[j]).2.node = (v : Int) → shutP v (ps[j]).2 = true := by
    intro j hj a b e
    have : (ps[j]).2.phase = 16 ∨ (ps[j]).2.phase = 17 ∨ (ps[j]).2.phase = 18 := by omega
    unfold shutP
    rw [e]
    simp
    omega
  refine ⟨fun j hj' => ?_, fun a b ha' hb' x1 x2 x3 x4 x5 => ?_, fun a b ha' hb' x1 x2 => ?_, fun u h1 hu hf => ?_, fun u h1 hu hf => ?_, fun hk u h1 hu hf => ?_, ?_, fun hk u hu => ?_⟩
  · by_cases e : j = i
    · subst e; rw [hgi hj']; exact hcq _ m.cq
    · rw [hget j (by omega) hj' e]; exact hcq _ (h.cq j (by omega))
  · have ha : a < ps.length := by omega
    have hb : b < ps.length := by omega
    by_cases ea : a = i
    · by_cases eb : b = i
      · omega
      · subst ea
        rw [hgi ha'] at x1 x2 x5
        rw [hget b hb hb' eb] at x3 x4 x5
        obtain ⟨g1, g2⟩ := m.gate x1 x2
        rcases g2 with g2 | g2
        · exact h.gate a b hi hb g2.1 g2.2 x3 x4 (by rw [m.at', ← x5]; exact g1.symm)
        · have := gsh b hb x3 x4 (by rw [← x5]; exact g1)
          rw [g2 b hb] at this
          simp at this
    · by_cases eb : b = i
      · subst eb
        rw [hgi hb'] at x3 x4 x5
        rw [hget a ha ha' ea] at x1 x2 x5
        obtain ⟨g1, g2⟩ := m.gate x3 x4
        rcases g2 with g2 | g2
        · exact h.gate a b ha hi x1 x2 g2.1 g2.2 (by rw [m.at', x5]; exact g1)
        · have := gsh a ha x1 x2 (by rw [x5]; exact g1)
          rw [g2 a ha] at this
          simp at this
      · rw [hget a ha ha' ea] at x1 x2 x5
        rw [hget b hb hb' eb] at x3 x4 x5
        exact h.gate a b ha hb x1 x2 x3 x4 x5
  · have ha : a < ps.length := by omega
    have hb : b < ps.length := by omega
    by_cases ea : a = i
    · subst ea
      rw [hgi ha'] at x1 x2 ⊢
      simp only at x1 x2 ⊢
      have g1 := (m.gate (by omega) (by omega)).1
      have hu : p'.node.toNat = v := by rw [g1]; simp
      rw [hu] at x2
      by_cases eb : b = a
      · subst eb
        rw [hgi hb'] at x2
        exfalso
        have hc := climb_half ⟨v, by have := m.vN; omega⟩ m.v1
        simp only at hc
        simp only [holdsP, atP] at x2
        rw [if_pos (by omega), hu] at x2
        simp [hc] at x2
      · rw [hget b hb hb' eb] at x2 ⊢
        rw [g1]
        exact m.calm1 x1 b hb eb x2
    · rw [hget a ha ha' ea] at x1 x2 ⊢
      obtain ⟨u, e1, e2, e3, e4⟩ := h.gnode hN ha (by omega) (by omega)
      have hu : (ps[a]).2.node.toNat = u := by rw [e1]; simp
      rw [hu] at x2
      by_cases eb : b = i
      · subst eb
        rw [hgi hb'] at x2 ⊢
        simp only at x2 ⊢
        by_cases ev : u = v
        · subst ev
          have hs := gsh a ha (by omega) (by omega) e1
          have := m.calm2 ⟨a, ha, ea, hs⟩ (fun ho => (h.calm a b ha hi x1 (by rw [hu]; exact ho)).2) x2
          rw [e1]
          exact this
        · have ho := m.hol u e3 (by omega) ev
          rw [ho] at x2
          have := (h.calm a b ha hi x1 (by rw [hu]; exact x2)).1
          rw [m.at', e1] at this
          omega
      · rw [hget b hb hb' eb] at x2 ⊢
        exact h.calm a b ha hb x1 (by rw [hu]; exact x2)
  · rw [hff] at hf ⊢
    exact h.par u h1 hu hf
  · rw [hff] at hf
    have he := h.even u h1 hu hf
    have hm := m.even u h1 hu hf
    unfold evenS at he ⊢
    have e1 : sumP (eP (ps.set i (pb, p')) u) (ps.set i (pb, p')) = sumP (eP ps u) ps - eP ps u (ps[i]).2 + eP ps u p' := by
      rw [sumP_congr _ (eP ps u) _ fun j hj => eP_set hi m.kind u _]
      exact sumP_set (eP ps u) ps i hi (pb, p')
    have e2 : sumN (fun w => side u w * balH (H' w)) N = sumN (fun w => side u w * balH (H w)) N - side u v * balH (H v) + side u v * balH (H' v) :=
      sumN_upd (fun w => side u w * balH (H w)) (fun w => side u w * balH (H' w)) v N m.vN fun k _ hne => by simp only [m.hH k hne]
    rw [Int.mul_sub] at hm
    rw [e1, e2]
    omega
  · rw [hff] at hf
    have hl := h.lies hk u h1 hu hf
    rw [sumP_set (stP u) ps i hi (pb, p')]
    by_cases e : u = v
    · subst e
      have := m.lies hk hf
      simp only
      omega
    · have e0 : stP u (ps[i]).2 = 0 := by
        unfold stP
        rw [if_neg (by rw [m.at']; omega)]
      rw [m.hH u e, m.lies2 u e, e0]
      omega
  · rw [sumP_set tickP ps i hi (pb, p')]
    have := sumN_upd (fun w => putN (H w)) (fun w => putN (H' w)) v N m.vN fun k _ hne => by simp only [m.hH k hne]
    rw [this]
    have h1 := h.sum
    have h2 := m.sum
    simp only
    omega
  · by_cases e : u = v
    · subst e; exact m.nog hk (h.nog hk u hu)
    · rw [m.hH u e]; exact h.nog hk u hu

end Go.Proofs.YtjnmpejcegmkhaaGreatDoor
