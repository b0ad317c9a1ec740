/- The contract of package prismref's Spawn where it is refused. No statement of the seat is proved here. -/
import Derived.Test.YtjnmpejcegmkhaaRefB
namespace Go.Proofs.Ytjnmpejcegmkhaa
open Go.RowKit

theorem noOp_ways (c : Conf) (o : Op3) (h : ¬ okOp c o) : ((o.kind == 0) = true ∧ (c.kind == 0) = false ∧ (o.kind == 1) = false ∧ (o.kind == 2) = false ∧ isChange o = false) ∨ ((o.kind == 0) = false ∧ (o.kind == 1) = true ∧ (c.kind == 1) = false ∧ isChange o = false) ∨ ((o.kind == 0) = false ∧ (o.kind == 1) = false ∧ (o.kind == 2) = true ∧ (c.kind == 1) = false ∧ isChange o = false) ∨
    ((o.kind == 0) = false ∧ (o.kind == 1) = false ∧ (o.kind == 2) = false ∧ isChange o = false) ∨ ((o.kind == 0) = false ∧ (o.kind == 1) = false ∧ (o.kind == 2) = false ∧ isChange o = true ∧ o.node < 1) ∨
    ((o.kind == 0) = false ∧ (o.kind == 1) = false ∧ (o.kind == 2) = false ∧ isChange o = true ∧ 1 ≤ o.node ∧ ((2 ^ c.depth.toNat : Nat) : Int) ≤ o.node) := by
  unfold okOp at h
  simp only [isChange, beq_iff_eq, beq_eq_false_iff_ne, Bool.or_eq_false_iff, Bool.or_eq_true, decide_eq_true_eq, decide_eq_false_iff_not]
  omega

set_option maxHeartbeats 8000000 in
theorem rspawn_err2 {w : World} {B : Nat} {L : Lay} (h : RefRep w B L) (o : Op3) (ho : ¬ okOp L.c o) (hd0 : 0 ≤ L.c.depth) (hd4 : L.c.depth ≤ 4) :
    Calls Try.prog 64 #[.pointer (some ⟨L.tb, 0, none⟩), opV o] w fun e w' => e = .returned (.tuple #[I 0, I 2]) ∧ Below w.heap.size w w' := by
  have hch := fun W => changes_c o W
  have hlive := fun W (hb : Below w.heap.size w W) => live_c (h.below hb)
  have c0 : w.cell? ⟨L.tb, 0, none⟩ = some (I L.c.kind) := by rw [block_cell h.tree]; rfl
  have c1 : w.cell? ⟨L.tb, 1, none⟩ = some (I L.c.depth) := by rw [block_cell h.tree]; rfl
  have c7 : w.cell? ⟨L.tb, 7, none⟩ = some (I L.c.procs) := by rw [block_cell h.tree]; rfl
  have c8 := h.pv_cell
  obtain ⟨ao, cap, e1, q1, q2, q3, hx⟩ := ownsRow_cells h.prow
  clear hx
  rw [e1] at c8
  have l0 := h.size
  obtain ⟨d, hd⟩ := Int.eq_ofNat_of_zero_le hd0
  rw [hd] at c1
  have hd4n : d ≤ 4 := by omega
  have hs := sh_one d (by omega)
  have hdn : L.c.depth.toNat = d := by omega
  have hways := noOp_ways L.c o ho
  rw [hdn] at hways
  obtain ⟨P2, hP2⟩ : ∃ P2 : Nat, P2 = 2 ^ d := ⟨_, rfl⟩
  rw [← hP2] at hs hways
  unfold maxLen at q2 q3
  unfold opV at hch ⊢
  replace hch : Hid _ := hch
  replace hlive : Hid _ := hlive
  clear h ho hP2 hdn hd hd0 hd4 e1
  generalize L.c.kind = ck at *
  generalize L.c.procs = cp at *
  generalize liveL L.procs = lv at *
  obtain ⟨kind, val, node⟩ := o
  simp only at *
  rcases hways with ⟨b0, k0, b1, b2, hc⟩ | ⟨b0, b1, k1, hc⟩ | ⟨b0, b1, b2, k1, hc⟩ | ⟨b0, b1, b2, hc⟩ | ⟨b0, b1, b2, hc, n1⟩ | ⟨b0, b1, b2, hc, n1, n2⟩
  · rw [hc] at hch
    clear hc
    go_enter Try.func64, Try.ntmps64
    go_wp2_with fail
    refine (hch.out _).mono ?_
    rintro e w0 ⟨rfl, hb1⟩
    have nbo : w0.heap[w.heap.size]? = some (.cells #[I kind, I val, I node] 33 (0, 0)) := (hb1.block _ (by simp)).trans (nb_alloc _ _ _)
    have hb2 : Below w.heap.size w w0 := ((Below.refl _ _).alloc (Nat.le_refl _) _).trans (hb1.mono (by simp))
    have l1 : L.tb < w0.heap.size := Nat.lt_of_lt_of_le l0 hb2.size
    have ls := (Array.getElem?_eq_some_iff.1 nbo).1
    have k0' := (hb2.cell (p := ⟨L.tb, 0, none⟩) l0).trans c0
    have k1' := (hb2.cell (p := ⟨L.tb, 1, none⟩) l0).trans c1
    have k7' := (hb2.cell (p := ⟨L.tb, 7, none⟩) l0).trans c7
    have k8' := (hb2.cell (p := ⟨L.tb, 8, none⟩) l0).trans c8
    obtain ⟨f1, _⟩ := nb_facts nbo
    clear hb1 c0 c1 c7 c8 hch
    go_wp2_with fail
    refine (hlive.out _ hb2).mono ?_
    rintro e w2 ⟨rfl, rfl⟩
    clear hlive
    go_wp2
    go_ret2
    exact ⟨rfl, hb2⟩
  · rw [hc] at hch
    clear hc
    go_enter Try.func64, Try.ntmps64
    go_wp2_with fail
    refine (hch.out _).mono ?_
    rintro e w0 ⟨rfl, hb1⟩
    have nbo : w0.heap[w.heap.size]? = some (.cells #[I kind, I val, I node] 33 (0, 0)) := (hb1.block _ (by simp)).trans (nb_alloc _ _ _)
    have hb2 : Below w.heap.size w w0 := ((Below.refl _ _).alloc (Nat.le_refl _) _).trans (hb1.mono (by simp))
    have l1 : L.tb < w0.heap.size := Nat.lt_of_lt_of_le l0 hb2.size
    have ls := (Array.getElem?_eq_some_iff.1 nbo).1
    have k0' := (hb2.cell (p := ⟨L.tb, 0, none⟩) l0).trans c0
    have k1' := (hb2.cell (p := ⟨L.tb, 1, none⟩) l0).trans c1
    have k7' := (hb2.cell (p := ⟨L.tb, 7, none⟩) l0).trans c7
    have k8' := (hb2.cell (p := ⟨L.tb, 8, none⟩) l0).trans c8
    obtain ⟨f1, _⟩ := nb_facts nbo
    clear hb1 c0 c1 c7 c8 hch
    go_wp2_with fail
    refine (hlive.out _ hb2).mono ?_
    rintro e w2 ⟨rfl, rfl⟩
    clear hlive
    go_wp2
    go_ret2
    exact ⟨rfl, hb2⟩
  · rw [hc] at hch
    clear hc
    go_enter Try.func64, Try.ntmps64
    go_wp2_with fail
    refine (hch.out _).mono ?_
    rintro e w0 ⟨rfl, hb1⟩
    have nbo : w0.heap[w.heap.size]? = some (.cells #[I kind, I val, I node] 33 (0, 0)) := (hb1.block _ (by simp)).trans (nb_alloc _ _ _)
    have hb2 : Below w.heap.size w w0 := ((Below.refl _ _).alloc (Nat.le_refl _) _).trans (hb1.mono (by simp))
    have l1 : L.tb < w0.heap.size := Nat.lt_of_lt_of_le l0 hb2.size
    have ls := (Array.getElem?_eq_some_iff.1 nbo).1
    have k0' := (hb2.cell (p := ⟨L.tb, 0, none⟩) l0).trans c0
    have k1' := (hb2.cell (p := ⟨L.tb, 1, none⟩) l0).trans c1
    have k7' := (hb2.cell (p := ⟨L.tb, 7, none⟩) l0).trans c7
    have k8' := (hb2.cell (p := ⟨L.tb, 8, none⟩) l0).trans c8
    obtain ⟨f1, _⟩ := nb_facts nbo
    clear hb1 c0 c1 c7 c8 hch
    go_wp2_with fail
    refine (hlive.out _ hb2).mono ?_
    rintro e w2 ⟨rfl, rfl⟩
    clear hlive
    go_wp2
    go_ret2
    exact ⟨rfl, hb2⟩
  · rw [hc] at hch
    clear hc
    go_enter Try.func64, Try.ntmps64
    go_wp2_with fail
    refine (hch.out _).mono ?_
    rintro e w0 ⟨rfl, hb1⟩
    have nbo : w0.heap[w.heap.size]? = some (.cells #[I kind, I val, I node] 33 (0, 0)) := (hb1.block _ (by simp)).trans (nb_alloc _ _ _)
    have hb2 : Below w.heap.size w w0 := ((Below.refl _ _).alloc (Nat.le_refl _) _).trans (hb1.mono (by simp))
    have l1 : L.tb < w0.heap.size := Nat.lt_of_lt_of_le l0 hb2.size
    have ls := (Array.getElem?_eq_some_iff.1 nbo).1
    have k0' := (hb2.cell (p := ⟨L.tb, 0, none⟩) l0).trans c0
    have k1' := (hb2.cell (p := ⟨L.tb, 1, none⟩) l0).trans c1
    have k7' := (hb2.cell (p := ⟨L.tb, 7, none⟩) l0).trans c7
    have k8' := (hb2.cell (p := ⟨L.tb, 8, none⟩) l0).trans c8
    obtain ⟨f1, _⟩ := nb_facts nbo
    clear hb1 c0 c1 c7 c8 hch
    go_wp2_with fail
    refine (hlive.out _ hb2).mono ?_
    rintro e w2 ⟨rfl, rfl⟩
    clear hlive
    go_wp2
    go_ret2
    exact ⟨rfl, hb2⟩
  · have n1' : decide ((1 : Int) ≤ node) = false := by simp; omega
    rw [hc] at hch
    clear hc
    go_enter Try.func64, Try.ntmps64
    go_wp2_with fail
    refine (hch.out _).mono ?_
    rintro e w0 ⟨rfl, hb1⟩
    have nbo : w0.heap[w.heap.size]? = some (.cells #[I kind, I val, I node] 33 (0, 0)) := (hb1.block _ (by simp)).trans (nb_alloc _ _ _)
    have hb2 : Below w.heap.size w w0 := ((Below.refl _ _).alloc (Nat.le_refl _) _).trans (hb1.mono (by simp))
    have l1 : L.tb < w0.heap.size := Nat.lt_of_lt_of_le l0 hb2.size
    have ls := (Array.getElem?_eq_some_iff.1 nbo).1
    have k0' := (hb2.cell (p := ⟨L.tb, 0, none⟩) l0).trans c0
    have k1' := (hb2.cell (p := ⟨L.tb, 1, none⟩) l0).trans c1
    have k7' := (hb2.cell (p := ⟨L.tb, 7, none⟩) l0).trans c7
    have k8' := (hb2.cell (p := ⟨L.tb, 8, none⟩) l0).trans c8
    obtain ⟨f1, _⟩ := nb_facts nbo
    clear hb1 c0 c1 c7 c8 hch
    go_wp2_with fail
    go_quiet (fail)
    have hbq : Below w0.heap.size w0 (w0.drewN nq) := Below.drewN' (Below.refl _ _) nq
    have k7q := (hbq.cell (p := ⟨L.tb, 7, none⟩) l1).trans k7'
    have k8q := (hbq.cell (p := ⟨L.tb, 8, none⟩) l1).trans k8'
    have hb2q := hb2.trans (hbq.mono hb2.size)
    clear f1 nbo ls k0' k1' k7' k8' hb2 l1 hbq
    generalize w0.drewN nq = wq at *
    go_wp2_with fail
    refine (hlive.out _ hb2q).mono ?_
    rintro e w2 ⟨rfl, rfl⟩
    clear hlive
    go_wp2
    go_ret2
    exact ⟨rfl, hb2q⟩
  · have n2' : decide (node < (P2 : Int)) = false := by simp; omega
    rw [hc] at hch
    clear hc
    go_enter Try.func64, Try.ntmps64
    go_wp2_with fail
    refine (hch.out _).mono ?_
    rintro e w0 ⟨rfl, hb1⟩
    have nbo : w0.heap[w.heap.size]? = some (.cells #[I kind, I val, I node] 33 (0, 0)) := (hb1.block _ (by simp)).trans (nb_alloc _ _ _)
    have hb2 : Below w.heap.size w w0 := ((Below.refl _ _).alloc (Nat.le_refl _) _).trans (hb1.mono (by simp))
    have l1 : L.tb < w0.heap.size := Nat.lt_of_lt_of_le l0 hb2.size
    have ls := (Array.getElem?_eq_some_iff.1 nbo).1
    have k0' := (hb2.cell (p := ⟨L.tb, 0, none⟩) l0).trans c0
    have k1' := (hb2.cell (p := ⟨L.tb, 1, none⟩) l0).trans c1
    have k7' := (hb2.cell (p := ⟨L.tb, 7, none⟩) l0).trans c7
    have k8' := (hb2.cell (p := ⟨L.tb, 8, none⟩) l0).trans c8
    obtain ⟨f1, _⟩ := nb_facts nbo
    clear hb1 c0 c1 c7 c8 hch
    go_wp2_with fail
    go_quiet (fail)
    have hbq : Below w0.heap.size w0 (w0.drewN nq) := Below.drewN' (Below.refl _ _) nq
    have k7q := (hbq.cell (p := ⟨L.tb, 7, none⟩) l1).trans k7'
    have k8q := (hbq.cell (p := ⟨L.tb, 8, none⟩) l1).trans k8'
    have hb2q := hb2.trans (hbq.mono hb2.size)
    clear f1 nbo ls k0' k1' k7' k8' hb2 l1 hbq
    generalize w0.drewN nq = wq at *
    go_wp2_with fail
    refine (hlive.out _ hb2q).mono ?_
    rintro e w2 ⟨rfl, rfl⟩
    clear hlive
    go_wp2
    go_ret2
    exact ⟨rfl, hb2q⟩

set_option maxHeartbeats 8000000 in
theorem rspawn_err3 {w : World} {B : Nat} {L : Lay} (h : RefRep w B L) (o : Op3) (ho : okOp L.c o) (hn : L.procs.length = 256) (hd0 : 0 ≤ L.c.depth) (hd4 : L.c.depth ≤ 4) :
    Calls Try.prog 64 #[.pointer (some ⟨L.tb, 0, none⟩), opV o] w fun e w' => e = .returned (.tuple #[I 0, I 3]) ∧ Below w.heap.size w w' := by
  have hch := fun W => changes_c o W
  have hlive := fun W (hb : Below w.heap.size w W) => live_c (h.below hb)
  have c0 : w.cell? ⟨L.tb, 0, none⟩ = some (I L.c.kind) := by rw [block_cell h.tree]; rfl
  have c1 : w.cell? ⟨L.tb, 1, none⟩ = some (I L.c.depth) := by rw [block_cell h.tree]; rfl
  have c7 : w.cell? ⟨L.tb, 7, none⟩ = some (I L.c.procs) := by rw [block_cell h.tree]; rfl
  have c8 := h.pv_cell
  obtain ⟨ao, cap, e1, q1, q2, q3, hx⟩ := ownsRow_cells h.prow
  clear hx
  rw [e1] at c8
  have l0 := h.size
  obtain ⟨d, hd⟩ := Int.eq_ofNat_of_zero_le hd0
  rw [hd] at c1
  have hd4n : d ≤ 4 := by omega
  have hs := sh_one d (by omega)
  have hdn : L.c.depth.toNat = d := by omega
  have bn : ((L.procs.length : Int) == 256) = true := by rw [hn]; rfl
  have hways := okOp_ways L.c o ho
  rw [hdn] at hways
  obtain ⟨P2, hP2⟩ : ∃ P2 : Nat, P2 = 2 ^ d := ⟨_, rfl⟩
  rw [← hP2] at hs hways
  unfold maxLen at q2 q3
  unfold opV at hch ⊢
  replace hch : Hid _ := hch
  replace hlive : Hid _ := hlive
  clear h ho hP2 hdn hd hd0 hd4 e1 hn
  generalize L.c.kind = ck at *
  generalize L.c.procs = cp at *
  generalize liveL L.procs = lv at *
  obtain ⟨kind, val, node⟩ := o
  simp only at *
  rcases hways with ⟨b0, k0, hc⟩ | ⟨b0, b1, k1, hc⟩ | ⟨b0, b1, b2, k1, hc⟩ | ⟨b0, b1, b2, hc, n1, n2⟩
  · rw [hc] at hch
    clear hc
    go_enter Try.func64, Try.ntmps64
    go_wp2_with fail
    refine (hch.out _).mono ?_
    rintro e w0 ⟨rfl, hb1⟩
    have nbo : w0.heap[w.heap.size]? = some (.cells #[I kind, I val, I node] 33 (0, 0)) := (hb1.block _ (by simp)).trans (nb_alloc _ _ _)
    have hb2 : Below w.heap.size w w0 := ((Below.refl _ _).alloc (Nat.le_refl _) _).trans (hb1.mono (by simp))
    have l1 : L.tb < w0.heap.size := Nat.lt_of_lt_of_le l0 hb2.size
    have ls := (Array.getElem?_eq_some_iff.1 nbo).1
    have k0' := (hb2.cell (p := ⟨L.tb, 0, none⟩) l0).trans c0
    have k1' := (hb2.cell (p := ⟨L.tb, 1, none⟩) l0).trans c1
    have k7' := (hb2.cell (p := ⟨L.tb, 7, none⟩) l0).trans c7
    have k8' := (hb2.cell (p := ⟨L.tb, 8, none⟩) l0).trans c8
    obtain ⟨f1, _⟩ := nb_facts nbo
    clear hb1 c0 c1 c7 c8 hch
    go_wp2_with fail
    refine (hlive.out _ hb2).mono ?_
    rintro e w2 ⟨rfl, rfl⟩
    clear hlive
    go_wp2
    go_ret2
    exact ⟨rfl, hb2⟩
  · rw [hc] at hch
    clear hc
    go_enter Try.func64, Try.ntmps64
    go_wp2_with fail
    refine (hch.out _).mono ?_
    rintro e w0 ⟨rfl, hb1⟩
    have nbo : w0.heap[w.heap.size]? = some (.cells #[I kind, I val, I node] 33 (0, 0)) := (hb1.block _ (by simp)).trans (nb_alloc _ _ _)
    have hb2 : Below w.heap.size w w0 := ((Below.refl _ _).alloc (Nat.le_refl _) _).trans (hb1.mono (by simp))
    have l1 : L.tb < w0.heap.size := Nat.lt_of_lt_of_le l0 hb2.size
    have ls := (Array.getElem?_eq_some_iff.1 nbo).1
    have k0' := (hb2.cell (p := ⟨L.tb, 0, none⟩) l0).trans c0
    have k1' := (hb2.cell (p := ⟨L.tb, 1, none⟩) l0).trans c1
    have k7' := (hb2.cell (p := ⟨L.tb, 7, none⟩) l0).trans c7
    have k8' := (hb2.cell (p := ⟨L.tb, 8, none⟩) l0).trans c8
    obtain ⟨f1, _⟩ := nb_facts nbo
    clear hb1 c0 c1 c7 c8 hch
    go_wp2_with fail
    refine (hlive.out _ hb2).mono ?_
    rintro e w2 ⟨rfl, rfl⟩
    clear hlive
    go_wp2
    go_ret2
    exact ⟨rfl, hb2⟩
  · rw [hc] at hch
    clear hc
    go_enter Try.func64, Try.ntmps64
    go_wp2_with fail
    refine (hch.out _).mono ?_
    rintro e w0 ⟨rfl, hb1⟩
    have nbo : w0.heap[w.heap.size]? = some (.cells #[I kind, I val, I node] 33 (0, 0)) := (hb1.block _ (by simp)).trans (nb_alloc _ _ _)
    have hb2 : Below w.heap.size w w0 := ((Below.refl _ _).alloc (Nat.le_refl _) _).trans (hb1.mono (by simp))
    have l1 : L.tb < w0.heap.size := Nat.lt_of_lt_of_le l0 hb2.size
    have ls := (Array.getElem?_eq_some_iff.1 nbo).1
    have k0' := (hb2.cell (p := ⟨L.tb, 0, none⟩) l0).trans c0
    have k1' := (hb2.cell (p := ⟨L.tb, 1, none⟩) l0).trans c1
    have k7' := (hb2.cell (p := ⟨L.tb, 7, none⟩) l0).trans c7
    have k8' := (hb2.cell (p := ⟨L.tb, 8, none⟩) l0).trans c8
    obtain ⟨f1, _⟩ := nb_facts nbo
    clear hb1 c0 c1 c7 c8 hch
    go_wp2_with fail
    refine (hlive.out _ hb2).mono ?_
    rintro e w2 ⟨rfl, rfl⟩
    clear hlive
    go_wp2
    go_ret2
    exact ⟨rfl, hb2⟩
  · rw [hc] at hch
    clear hc
    go_enter Try.func64, Try.ntmps64
    go_wp2_with fail
    refine (hch.out _).mono ?_
    rintro e w0 ⟨rfl, hb1⟩
    have nbo : w0.heap[w.heap.size]? = some (.cells #[I kind, I val, I node] 33 (0, 0)) := (hb1.block _ (by simp)).trans (nb_alloc _ _ _)
    have hb2 : Below w.heap.size w w0 := ((Below.refl _ _).alloc (Nat.le_refl _) _).trans (hb1.mono (by simp))
    have l1 : L.tb < w0.heap.size := Nat.lt_of_lt_of_le l0 hb2.size
    have ls := (Array.getElem?_eq_some_iff.1 nbo).1
    have k0' := (hb2.cell (p := ⟨L.tb, 0, none⟩) l0).trans c0
    have k1' := (hb2.cell (p := ⟨L.tb, 1, none⟩) l0).trans c1
    have k7' := (hb2.cell (p := ⟨L.tb, 7, none⟩) l0).trans c7
    have k8' := (hb2.cell (p := ⟨L.tb, 8, none⟩) l0).trans c8
    obtain ⟨f1, _⟩ := nb_facts nbo
    clear hb1 c0 c1 c7 c8 hch
    go_wp2_with fail
    go_quiet (fail)
    have hbq : Below w0.heap.size w0 (w0.drewN nq) := Below.drewN' (Below.refl _ _) nq
    have k7q := (hbq.cell (p := ⟨L.tb, 7, none⟩) l1).trans k7'
    have k8q := (hbq.cell (p := ⟨L.tb, 8, none⟩) l1).trans k8'
    have hb2q := hb2.trans (hbq.mono hb2.size)
    clear f1 nbo ls k0' k1' k7' k8' hb2 l1 hbq
    generalize w0.drewN nq = wq at *
    go_wp2_with fail
    refine (hlive.out _ hb2q).mono ?_
    rintro e w2 ⟨rfl, rfl⟩
    clear hlive
    go_wp2
    go_ret2
    exact ⟨rfl, hb2q⟩

set_option maxHeartbeats 8000000 in
theorem rspawn_err4 {w : World} {B : Nat} {L : Lay} (h : RefRep w B L) (o : Op3) (ho : okOp L.c o) (hn : L.procs.length < 256) (hlv : (liveL L.procs : Int) = L.c.procs) (hd0 : 0 ≤ L.c.depth) (hd4 : L.c.depth ≤ 4) :
    Calls Try.prog 64 #[.pointer (some ⟨L.tb, 0, none⟩), opV o] w fun e w' => e = .returned (.tuple #[I 0, I 4]) ∧ Below w.heap.size w w' := by
  have hch := fun W => changes_c o W
  have hlive := fun W (hb : Below w.heap.size w W) => live_c (h.below hb)
  have c0 : w.cell? ⟨L.tb, 0, none⟩ = some (I L.c.kind) := by rw [block_cell h.tree]; rfl
  have c1 : w.cell? ⟨L.tb, 1, none⟩ = some (I L.c.depth) := by rw [block_cell h.tree]; rfl
  have c7 : w.cell? ⟨L.tb, 7, none⟩ = some (I L.c.procs) := by rw [block_cell h.tree]; rfl
  have c8 := h.pv_cell
  obtain ⟨ao, cap, e1, q1, q2, q3, hx⟩ := ownsRow_cells h.prow
  clear hx
  rw [e1] at c8
  have l0 := h.size
  obtain ⟨d, hd⟩ := Int.eq_ofNat_of_zero_le hd0
  rw [hd] at c1
  have hd4n : d ≤ 4 := by omega
  have hs := sh_one d (by omega)
  have hdn : L.c.depth.toNat = d := by omega
  have bn : ((L.procs.length : Int) == 256) = false := by simp; omega
  have bl : ((liveL L.procs : Int) == L.c.procs) = true := by simpa using hlv
  have hways := okOp_ways L.c o ho
  rw [hdn] at hways
  obtain ⟨P2, hP2⟩ : ∃ P2 : Nat, P2 = 2 ^ d := ⟨_, rfl⟩
  rw [← hP2] at hs hways
  unfold maxLen at q2 q3
  unfold opV at hch ⊢
  replace hch : Hid _ := hch
  replace hlive : Hid _ := hlive
  clear h ho hP2 hdn hd hd0 hd4 e1 hlv
  generalize L.c.kind = ck at *
  generalize L.c.procs = cp at *
  generalize liveL L.procs = lv at *
  obtain ⟨kind, val, node⟩ := o
  simp only at *
  rcases hways with ⟨b0, k0, hc⟩ | ⟨b0, b1, k1, hc⟩ | ⟨b0, b1, b2, k1, hc⟩ | ⟨b0, b1, b2, hc, n1, n2⟩
  · rw [hc] at hch
    clear hc
    go_enter Try.func64, Try.ntmps64
    go_wp2_with fail
    refine (hch.out _).mono ?_
    rintro e w0 ⟨rfl, hb1⟩
    have nbo : w0.heap[w.heap.size]? = some (.cells #[I kind, I val, I node] 33 (0, 0)) := (hb1.block _ (by simp)).trans (nb_alloc _ _ _)
    have hb2 : Below w.heap.size w w0 := ((Below.refl _ _).alloc (Nat.le_refl _) _).trans (hb1.mono (by simp))
    have l1 : L.tb < w0.heap.size := Nat.lt_of_lt_of_le l0 hb2.size
    have ls := (Array.getElem?_eq_some_iff.1 nbo).1
    have k0' := (hb2.cell (p := ⟨L.tb, 0, none⟩) l0).trans c0
    have k1' := (hb2.cell (p := ⟨L.tb, 1, none⟩) l0).trans c1
    have k7' := (hb2.cell (p := ⟨L.tb, 7, none⟩) l0).trans c7
    have k8' := (hb2.cell (p := ⟨L.tb, 8, none⟩) l0).trans c8
    obtain ⟨f1, _⟩ := nb_facts nbo
    clear hb1 c0 c1 c7 c8 hch
    go_wp2_with fail
    refine (hlive.out _ hb2).mono ?_
    rintro e w2 ⟨rfl, rfl⟩
    clear hlive
    go_wp2
    go_ret2
    exact ⟨rfl, hb2⟩
  · rw [hc] at hch
    clear hc
    go_enter Try.func64, Try.ntmps64
    go_wp2_with fail
    refine (hch.out _).mono ?_
    rintro e w0 ⟨rfl, hb1⟩
    have nbo : w0.heap[w.heap.size]? = some (.cells #[I kind, I val, I node] 33 (0, 0)) := (hb1.block _ (by simp)).trans (nb_alloc _ _ _)
    have hb2 : Below w.heap.size w w0 := ((Below.refl _ _).alloc (Nat.le_refl _) _).trans (hb1.mono (by simp))
    have l1 : L.tb < w0.heap.size := Nat.lt_of_lt_of_le l0 hb2.size
    have ls := (Array.getElem?_eq_some_iff.1 nbo).1
    have k0' := (hb2.cell (p := ⟨L.tb, 0, none⟩) l0).trans c0
    have k1' := (hb2.cell (p := ⟨L.tb, 1, none⟩) l0).trans c1
    have k7' := (hb2.cell (p := ⟨L.tb, 7, none⟩) l0).trans c7
    have k8' := (hb2.cell (p := ⟨L.tb, 8, none⟩) l0).trans c8
    obtain ⟨f1, _⟩ := nb_facts nbo
    clear hb1 c0 c1 c7 c8 hch
    go_wp2_with fail
    refine (hlive.out _ hb2).mono ?_
    rintro e w2 ⟨rfl, rfl⟩
    clear hlive
    go_wp2
    go_ret2
    exact ⟨rfl, hb2⟩
  · rw [hc] at hch
    clear hc
    go_enter Try.func64, Try.ntmps64
    go_wp2_with fail
    refine (hch.out _).mono ?_
    rintro e w0 ⟨rfl, hb1⟩
    have nbo : w0.heap[w.heap.size]? = some (.cells #[I kind, I val, I node] 33 (0, 0)) := (hb1.block _ (by simp)).trans (nb_alloc _ _ _)
    have hb2 : Below w.heap.size w w0 := ((Below.refl _ _).alloc (Nat.le_refl _) _).trans (hb1.mono (by simp))
    have l1 : L.tb < w0.heap.size := Nat.lt_of_lt_of_le l0 hb2.size
    have ls := (Array.getElem?_eq_some_iff.1 nbo).1
    have k0' := (hb2.cell (p := ⟨L.tb, 0, none⟩) l0).trans c0
    have k1' := (hb2.cell (p := ⟨L.tb, 1, none⟩) l0).trans c1
    have k7' := (hb2.cell (p := ⟨L.tb, 7, none⟩) l0).trans c7
    have k8' := (hb2.cell (p := ⟨L.tb, 8, none⟩) l0).trans c8
    obtain ⟨f1, _⟩ := nb_facts nbo
    clear hb1 c0 c1 c7 c8 hch
    go_wp2_with fail
    refine (hlive.out _ hb2).mono ?_
    rintro e w2 ⟨rfl, rfl⟩
    clear hlive
    go_wp2
    go_ret2
    exact ⟨rfl, hb2⟩
  · rw [hc] at hch
    clear hc
    go_enter Try.func64, Try.ntmps64
    go_wp2_with fail
    refine (hch.out _).mono ?_
    rintro e w0 ⟨rfl, hb1⟩
    have nbo : w0.heap[w.heap.size]? = some (.cells #[I kind, I val, I node] 33 (0, 0)) := (hb1.block _ (by simp)).trans (nb_alloc _ _ _)
    have hb2 : Below w.heap.size w w0 := ((Below.refl _ _).alloc (Nat.le_refl _) _).trans (hb1.mono (by simp))
    have l1 : L.tb < w0.heap.size := Nat.lt_of_lt_of_le l0 hb2.size
    have ls := (Array.getElem?_eq_some_iff.1 nbo).1
    have k0' := (hb2.cell (p := ⟨L.tb, 0, none⟩) l0).trans c0
    have k1' := (hb2.cell (p := ⟨L.tb, 1, none⟩) l0).trans c1
    have k7' := (hb2.cell (p := ⟨L.tb, 7, none⟩) l0).trans c7
    have k8' := (hb2.cell (p := ⟨L.tb, 8, none⟩) l0).trans c8
    obtain ⟨f1, _⟩ := nb_facts nbo
    clear hb1 c0 c1 c7 c8 hch
    go_wp2_with fail
    go_quiet (fail)
    have hbq : Below w0.heap.size w0 (w0.drewN nq) := Below.drewN' (Below.refl _ _) nq
    have k7q := (hbq.cell (p := ⟨L.tb, 7, none⟩) l1).trans k7'
    have k8q := (hbq.cell (p := ⟨L.tb, 8, none⟩) l1).trans k8'
    have hb2q := hb2.trans (hbq.mono hb2.size)
    clear f1 nbo ls k0' k1' k7' k8' hb2 l1 hbq
    generalize w0.drewN nq = wq at *
    go_wp2_with fail
    refine (hlive.out _ hb2q).mono ?_
    rintro e w2 ⟨rfl, rfl⟩
    clear hlive
    go_wp2
    go_ret2
    exact ⟨rfl, hb2q⟩

end Go.Proofs.Ytjnmpejcegmkhaa
