/- The contract of the program's Spawn. No statement of the seat is proved here. -/
import Derived.Test.YtjnmpejcegmkhaaProgSpawn2
import Derived.Deep.QuietTactic
import Derived.BigQuiet
namespace Go.Proofs.Ytjnmpejcegmkhaa
open Go.RowKit

theorem setSeg_one (l : List Value) (o : Nat) (x : Value) : setSeg l o [x] = l.set o x := rfl

theorem PRep.push {w w1 w2 : World} {B : Nat} {L : PLay} {p : PP} {x : Value} (h : PRep w B L) (hw : Below w.heap.size w w1)
    (ho : w2.ownsRow B 119 11 x (L.procs.length + 1) (L.procs.flatMap ppCells ++ ppCells p)) (hg : w1.grownBy w2 L.pv.ownBlock) :
    PRep (w2.setCell ⟨L.tb, 680, none⟩ x) B { L with pv := x, procs := L.procs ++ [p] } ∧ ChgT B [78, 119] w (w2.setCell ⟨L.tb, 680, none⟩ x) := by
  have h1 := h.below hw
  have hne : some L.tb ≠ L.pv.ownBlock := by
    intro e
    obtain ⟨c', hc'⟩ := ownsRow_block h.prow e.symm
    rw [h.tree] at hc'
    simp at hc'
  have ht2 : w2.heap[L.tb]? = some (.cells (pTree L).toArray 78 (0, 0)) := by
    rw [hg.block L.tb (by have := h1.size; omega) hne]; exact h1.tree
  have hch : ChgT B [78, 119] w (w2.setCell ⟨L.tb, 680, none⟩ x) := by
    refine ⟨hg.os.trans hw.os, hg.tape.trans hw.tape, hg.output.trans hw.output, by simpa [World.setCell] using Nat.le_trans hw.size hg.size, fun k hk hc => ?_⟩
    have hkt : k ≠ L.tb := by
      intro e
      subst e
      rcases hc with hc | hc
      · have := h.treeB; omega
      · exact absurd (hc _ _ _ h.tree) (by simp)
    rw [Below.heap_setCell _ _ _ _ hkt, hg.block k (by have := hw.size; omega) (fun he => ?_), hw.block k hk]
    rcases hc with hc | hc
    · have := (h.prow.lt k he.symm).1; omega
    · obtain ⟨c', hc'⟩ := ownsRow_block h.prow he.symm
      exact absurd (hc _ _ _ hc') (by simp)
  refine ⟨⟨?_, h.treeB, h.len, ?_, fun v hv => hch.row (h.items v hv) (by decide), h.ind⟩, hch⟩
  · have := nb_set ht2 680 x
    rw [this]
    congr 2
    have e : (pTree L).set 680 x = pTree { L with pv := x, procs := L.procs ++ [p] } := by
      have hl : (pConf L.c ++ L.nodes.flatMap pnCells).length = 680 := by
        rw [List.length_append, flat_length pnCells 21 pn_len, h.len]; rfl
      show (pConf L.c ++ (L.nodes.flatMap pnCells ++ [L.pv])).set 680 x = pConf L.c ++ (L.nodes.flatMap pnCells ++ [x])
      rw [← List.append_assoc, ← List.append_assoc, List.set_append_right _ _ (by omega), hl]
      rfl
    rw [← e]
    simp
  · have := ownsRow_setCell_type ho ht2 (by decide) 680 x
    simpa using this

theorem PRep.conf_cells {w : World} {B : Nat} {L : PLay} (h : PRep w B L) : w.cell? ⟨L.tb, 0, none⟩ = some (I L.c.kind) ∧ w.cell? ⟨L.tb, 1, none⟩ = some (I L.c.depth) ∧ w.cell? ⟨L.tb, 2, none⟩ = some (I L.c.start) ∧ w.cell? ⟨L.tb, 3, none⟩ = some (I L.c.slots) ∧ w.cell? ⟨L.tb, 4, none⟩ = some (I L.c.width) ∧ w.cell? ⟨L.tb, 5, none⟩ = some (I L.c.spin) ∧ w.cell? ⟨L.tb, 6, none⟩ = some (I L.c.drain) ∧ w.cell? ⟨L.tb, 7, none⟩ = some (I L.c.procs) :=
  ⟨h.ccell 0 (by omega), h.ccell 1 (by omega), h.ccell 2 (by omega), h.ccell 3 (by omega), h.ccell 4 (by omega), h.ccell 5 (by omega), h.ccell 6 (by omega), h.ccell 7 (by omega)⟩

set_option maxHeartbeats 4000000 in
theorem pspawn_err2 {w : World} {B : Nat} {L : PLay} (h : PRep w B L) (o : Op3) (ho : ¬ okOp L.c o) (hd0 : 0 ≤ L.c.depth) (hd4 : L.c.depth ≤ 4) :
    Calls Try.prog 40 #[.pointer (some ⟨L.tb, 0, none⟩), opV o] w fun e w' => e = .returned (.tuple #[I 0, I 2]) ∧ Below w.heap.size w w' := by
  have hh := fun W => hasOp_no L.c o ho hd0 hd4 W
  obtain ⟨c0, c1, c2, c3, c4, c5, c6, c7⟩ := h.conf_cells
  have l0 := h.size
  unfold opV confV at *
  replace hh : Hid _ := hh
  clear h ho hd0 hd4
  obtain ⟨kind, val, node⟩ := o
  simp only at *
  go_enter Try.func40, Try.ntmps40
  go_wp2_with fail
  go_region_with (go_at_call 71; refine (hh.out _).mono ?_; rintro e w1 ⟨rfl, hb1⟩)
  all_goals
    go_wp2
    go_ret2
    exact ⟨rfl, ((Below.refl _ _).alloc (Nat.le_refl _) _).drew.trans (hb1.mono (by show w.heap.size ≤ (w.alloc _).heap.size; simp))⟩

set_option maxHeartbeats 4000000 in
theorem pspawn_err3 {w : World} {B : Nat} {L : PLay} (h : PRep w B L) (o : Op3) (ho : okOp L.c o) (hd0 : 0 ≤ L.c.depth) (hd4 : L.c.depth ≤ 4) (hn : L.procs.length = 256) :
    Calls Try.prog 40 #[.pointer (some ⟨L.tb, 0, none⟩), opV o] w fun e w' => e = .returned (.tuple #[I 0, I 3]) ∧ Below w.heap.size w w' := by
  have hh := fun W => hasOp_yes L.c o ho hd0 hd4 W
  obtain ⟨c0, c1, c2, c3, c4, c5, c6, c7⟩ := h.conf_cells
  have c8 := h.pcell
  obtain ⟨ao, cap, e1, q1, q2, q3, hx⟩ := h.pp_at
  clear hx
  rw [e1, hn] at c8
  have l0 := h.size
  unfold opV confV at *
  replace hh : Hid _ := hh
  clear h ho hd0 hd4 e1 hn q1 q2 q3
  obtain ⟨kind, val, node⟩ := o
  simp only at *
  go_enter Try.func40, Try.ntmps40
  go_wp2_with fail
  go_region_with (go_at_call 71; refine (hh.out _).mono ?_; rintro e w1 ⟨rfl, hb1⟩)
  all_goals
    have hb2 : Below w.heap.size w w1 := ((Below.refl _ _).alloc (Nat.le_refl _) _).drew.trans (hb1.mono (by show w.heap.size ≤ (w.alloc _).heap.size; simp))
    have k8 := (hb2.cell (p := ⟨L.tb, 680, none⟩) l0).trans c8
    clear hb1
    go_wp2
    go_ret2
    exact ⟨rfl, hb2⟩

set_option maxHeartbeats 4000000 in
theorem pspawn_err4 {w : World} {B : Nat} {L : PLay} (h : PRep w B L) (o : Op3) (ho : okOp L.c o) (hd0 : 0 ≤ L.c.depth) (hd4 : L.c.depth ≤ 4) (hn : L.procs.length < 256) (hlv : L.c.procs ≤ (pliveL L.procs : Int)) :
    Calls Try.prog 40 #[.pointer (some ⟨L.tb, 0, none⟩), opV o] w fun e w' => e = .returned (.tuple #[I 0, I 4]) ∧ Below w.heap.size w w' := by
  have hh := fun W => hasOp_yes L.c o ho hd0 hd4 W
  have hlive := fun W (hb : Below w.heap.size w W) => plive_c (h.below hb)
  obtain ⟨c0, c1, c2, c3, c4, c5, c6, c7⟩ := h.conf_cells
  have c8 := h.pcell
  obtain ⟨ao, cap, e1, q1, q2, q3, hx⟩ := h.pp_at
  clear hx
  rw [e1] at c8
  have l0 := h.size
  have hd : decide ((256 : Int) ≤ (L.procs.length : Int)) = false := by simp; omega
  unfold opV confV at *
  replace hh : Hid _ := hh
  replace hlive : Hid _ := hlive
  clear h ho hd0 hd4 e1 q1 q2 q3
  generalize pliveL L.procs = lv at *
  generalize L.procs.length = n at *
  obtain ⟨kind, val, node⟩ := o
  simp only at *
  go_enter Try.func40, Try.ntmps40
  go_wp2_with fail
  go_region_with (go_at_call 71; refine (hh.out _).mono ?_; rintro e w1 ⟨rfl, hb1⟩)
  all_goals
    have hb2 : Below w.heap.size w w1 := ((Below.refl _ _).alloc (Nat.le_refl _) _).drew.trans (hb1.mono (by show w.heap.size ≤ (w.alloc _).heap.size; simp))
    have k8 := (hb2.cell (p := ⟨L.tb, 680, none⟩) l0).trans c8
    have k7 := (hb2.cell (p := ⟨L.tb, 7, none⟩) l0).trans c7
    clear hb1 c0 c1 c2 c3 c4 c5 c6 c7 c8 hh
    go_wp2_with fail
    go_quiet ((go_at_call 72; exact Calls.quiet_of_same (hlive.out _ (by first | exact hb2.drew | exact Below.drewN' hb2 _ | exact hb2))))
    go_wp2
    go_ret2
    exact ⟨rfl, Below.drewN' hb2 _⟩

theorem Try.info119 : (Try.prog.info? 119).map (fun i => (i.zero, i.size, i.bytes)) = some (some (.agg #[.int .i64 0, .int .i64 0, .int .i64 0, .int .i64 0, .int .i64 0, .int .i64 0, .int .i64 0, .int .i64 0, .int .i64 0, .int .i64 0, .int .i64 0]), 11, 88) := by kernel_rfl

set_option maxHeartbeats 8000000 in
theorem pspawn_yes {w : World} {B : Nat} {L : PLay} (h : PRep w B L) (hB : B ≤ w.heap.size) (o : Op3) (ho : okOp L.c o) (hd0 : 0 ≤ L.c.depth) (hd4 : L.c.depth ≤ 4) (hn : L.procs.length < 256) (hlv : (pliveL L.procs : Int) < L.c.procs) :
    Calls Try.prog 40 #[.pointer (some ⟨L.tb, 0, none⟩), opV o] w fun e w' => e = .returned (.tuple #[I L.procs.length, I 0]) ∧ (∃ x, PRep w' B { L with pv := x, procs := L.procs ++ [newPP o] }) ∧ ChgT B [78, 119] w w' := by
  have hh := fun W => hasOp_yes L.c o ho hd0 hd4 W
  have hlive := fun W (hb : Below w.heap.size w W) => plive_c (h.below hb)
  have hnp := fun W => newProcess_c o W
  obtain ⟨c0, c1, c2, c3, c4, c5, c6, c7⟩ := h.conf_cells
  have c8 := h.pcell
  obtain ⟨ao, cap, e1, q1, q2, q3, hx⟩ := h.pp_at
  clear hx
  rw [e1] at c8
  have l0 := h.size
  have hd : decide ((256 : Int) ≤ (L.procs.length : Int)) = false := by simp; omega
  have hdl : decide (L.c.procs ≤ ((pliveL L.procs : Nat) : Int)) = false := by simp; omega
  unfold opV confV at *
  replace hh : Hid _ := hh
  replace hlive : Hid _ := hlive
  replace hnp : Hid _ := hnp
  clear ho hd0 hd4
  generalize pliveL L.procs = lv at *
  obtain ⟨kind, val, node⟩ := o
  simp only at *
  go_enter Try.func40, Try.ntmps40
  go_wp2_with fail
  go_region_with (go_at_call 71; refine (hh.out _).mono ?_; rintro e w1 ⟨rfl, hb1⟩)
  all_goals
    have hb2 : Below w.heap.size w w1 := ((Below.refl _ _).alloc (Nat.le_refl _) _).drew.trans (hb1.mono (by show w.heap.size ≤ (w.alloc _).heap.size; simp))
    have nbo : w1.heap[w.heap.size]? = some (.cells #[I kind, I val, I node] 33 (0, 0)) := (hb1.block _ (by show w.heap.size < (w.alloc _).heap.size; simp)).trans (nb_alloc _ _ _)
    have k8 := (hb2.cell (p := ⟨L.tb, 680, none⟩) l0).trans c8
    have k7 := (hb2.cell (p := ⟨L.tb, 7, none⟩) l0).trans c7
    clear hb1 c0 c1 c2 c3 c4 c5 c6 hh
    go_wp2_with fail
    go_quiet ((go_at_call 72; exact Calls.quiet_of_same (hlive.out _ (by first | exact hb2.drew | exact Below.drewN' hb2 _ | exact hb2))))
    have hb3 := Below.drewN' hb2 nq
    have hbq : Below w1.heap.size w1 (w1.drewN nq) := Below.drewN' (Below.refl _ _) nq
    have nbo2 := (hbq.block _ (Array.getElem?_eq_some_iff.1 nbo).1).trans nbo
    have k82 := (hb3.cell (p := ⟨L.tb, 680, none⟩) l0).trans c8
    have l1 : L.tb < (w1.drewN nq).heap.size := Nat.lt_of_lt_of_le l0 hb3.size
    clear hb2 nbo k8 k7 hlive hbq
    generalize w1.drewN nq = wq at *
    obtain ⟨f1, _⟩ := nb_facts nbo2
    go_wp2_with fail
    refine (hnp.out _).mono ?_
    rintro e w3 ⟨rfl, hb4⟩
    have HPP : Hid (ppCells (newPP ⟨kind, val, node⟩) = [I (newPP ⟨kind, val, node⟩).kind, I (newPP ⟨kind, val, node⟩).oval, I (newPP ⟨kind, val, node⟩).onode, I (newPP ⟨kind, val, node⟩).phase, I (newPP ⟨kind, val, node⟩).node, I (newPP ⟨kind, val, node⟩).val, I (newPP ⟨kind, val, node⟩).width, I (newPP ⟨kind, val, node⟩).slot, I (newPP ⟨kind, val, node⟩).mind, I (newPP ⟨kind, val, node⟩).pat, I (newPP ⟨kind, val, node⟩).ticket]) := rfl
    rw [HPP.out]
    generalize (newPP ⟨kind, val, node⟩).kind = pk at *
    generalize (newPP ⟨kind, val, node⟩).oval = pv at *
    generalize (newPP ⟨kind, val, node⟩).onode = po at *
    generalize (newPP ⟨kind, val, node⟩).phase = ph at *
    generalize (newPP ⟨kind, val, node⟩).node = pn at *
    generalize (newPP ⟨kind, val, node⟩).val = pl at *
    generalize (newPP ⟨kind, val, node⟩).width = pw at *
    generalize (newPP ⟨kind, val, node⟩).slot = ps at *
    generalize (newPP ⟨kind, val, node⟩).mind = pm at *
    generalize (newPP ⟨kind, val, node⟩).pat = pa at *
    generalize (newPP ⟨kind, val, node⟩).ticket = pt at *
    have hb5 := hb3.trans (hb4.mono hb3.size)
    have k83 := (hb5.cell (p := ⟨L.tb, 680, none⟩) l0).trans c8
    have l2 : L.tb < w3.heap.size := Nat.lt_of_lt_of_le l0 hb5.size
    clear f1 nbo2 k82 hb3 hb4 hnp
    go_wp2_with fail
    have hrow : w3.ownsRow B 119 11 (.slice ao L.procs.length cap) L.procs.length (L.procs.flatMap ppCells) := by have := ownsRow_below h.prow hb5 (Nat.le_refl _); rw [e1] at this; exact this
    have hsz := hb5.size
    have HB2 : Hid (Below w.heap.size w (((w3.alloc (.cells #[I pk, I pv, I po, I ph, I pn, I pl, I pw, I ps, I pm, I pa, I pt] 119)).alloc (.cells #[I pk, I pv, I po, I ph, I pn, I pl, I pw, I ps, I pm, I pa, I pt] 119)).drew)) := ((hb5.alloc hb5.size _).alloc (by simp; omega) _).drew
    have HO : Hid ((((w3.alloc (.cells #[I pk, I pv, I po, I ph, I pn, I pl, I pw, I ps, I pm, I pa, I pt] 119)).alloc (.cells #[I pk, I pv, I po, I ph, I pn, I pl, I pw, I ps, I pm, I pa, I pt] 119)).drew).ownsRow B 119 11 (.slice ao L.procs.length cap) L.procs.length (L.procs.flatMap ppCells)) := ((hrow.alloc _).alloc _).drew
    have HN : Hid (∀ j u, [I pk, I pv, I po, I ph, I pn, I pl, I pw, I ps, I pm, I pa, I pt][j]? = some u → (((w3.alloc (.cells #[I pk, I pv, I po, I ph, I pn, I pl, I pw, I ps, I pm, I pa, I pt] 119)).alloc (.cells #[I pk, I pv, I po, I ph, I pn, I pl, I pw, I ps, I pm, I pa, I pt] 119)).drew).cell? ((⟨w3.heap.size + 1, 0, none⟩ : Addr).add j) = some u) := by
      have := cells_new (w3.alloc (.cells #[I pk, I pv, I po, I ph, I pn, I pl, I pw, I ps, I pm, I pa, I pt] 119)) [I pk, I pv, I po, I ph, I pn, I pl, I pw, I ps, I pm, I pa, I pt] 119
      simp only [World.size_alloc] at this
      exact this
    have H1 : Hid (∀ u ∈ [I pk, I pv, I po, I ph, I pn, I pl, I pw, I ps, I pm, I pa, I pt], u.oneCell' = true) := by
      intro u hu
      simp only [List.mem_cons, List.not_mem_nil, or_false] at hu
      rcases hu with h | h | h | h | h | h | h | h | h | h | h <;> subst h <;> rfl
    have HB : Hid (B ≤ (((w3.alloc (.cells #[I pk, I pv, I po, I ph, I pn, I pl, I pw, I ps, I pm, I pa, I pt] 119)).alloc (.cells #[I pk, I pv, I po, I ph, I pn, I pl, I pw, I ps, I pm, I pa, I pt] 119)).drew).heap.size) := by
      show B ≤ ((w3.alloc _).alloc _).heap.size
      simp; omega
    have HM : Hid (L.procs.length + 1 ≤ maxLen) := by show _ ≤ _; unfold maxLen; omega
    have HY : Hid ((L.procs.length + 1) * 88 ≤ 140737488355328) := by show _ ≤ _; omega
    have HH : Hid ((((w3.alloc (.cells #[I pk, I pv, I po, I ph, I pn, I pl, I pw, I ps, I pm, I pa, I pt] 119)).alloc (.cells #[I pk, I pv, I po, I ph, I pn, I pl, I pw, I ps, I pm, I pa, I pt] 119)).drew).heap.size = w3.heap.size + 2) := by
      show ((w3.alloc _).alloc _).heap.size = _
      simp
    have HC : Hid (∀ w', (((w3.alloc (.cells #[I pk, I pv, I po, I ph, I pn, I pl, I pw, I ps, I pm, I pa, I pt] 119)).alloc (.cells #[I pk, I pv, I po, I ph, I pn, I pl, I pw, I ps, I pm, I pa, I pt] 119)).drew).grownBy w' (Value.slice ao L.procs.length cap).ownBlock → w'.cell? ⟨L.tb, 680, none⟩ = some (.slice ao L.procs.length cap) ∧ w'.frozen? ⟨L.tb, 680, none⟩ = false) := by
      intro w' hg
      have hne : some L.tb ≠ (Value.slice ao L.procs.length cap).ownBlock := by
        rw [← e1]
        intro e
        obtain ⟨c', hc'⟩ := ownsRow_block h.prow e.symm
        rw [h.tree] at hc'
        simp at hc'
      have ht0 : w'.heap[L.tb]? = w.heap[L.tb]? := (hg.block L.tb (by show L.tb < ((w3.alloc _).alloc _).heap.size; simp; omega) hne).trans (HB2.out.block L.tb l0)
      exact ⟨(World.cell?_of_block (a := ⟨L.tb, 680, none⟩) ht0).trans c8, (World.frozen?_of_block (a := ⟨L.tb, 680, none⟩) ht0).trans ((nb_facts h.tree).2 680)⟩
    have HP : Hid (∀ w' x, w'.ownsRow B 119 11 x (L.procs.length + 1) (L.procs.flatMap ppCells ++ [I pk, I pv, I po, I ph, I pn, I pl, I pw, I ps, I pm, I pa, I pt]) → (((w3.alloc (.cells #[I pk, I pv, I po, I ph, I pn, I pl, I pw, I ps, I pm, I pa, I pt] 119)).alloc (.cells #[I pk, I pv, I po, I ph, I pn, I pl, I pw, I ps, I pm, I pa, I pt] 119)).drew).grownBy w' (Value.slice ao L.procs.length cap).ownBlock →
        PRep (w'.setCell ⟨L.tb, 680, none⟩ x) B { L with pv := x, procs := L.procs ++ [newPP ⟨kind, val, node⟩] } ∧ ChgT B [78, 119] w (w'.setCell ⟨L.tb, 680, none⟩ x)) := by
      intro w' x a1 a2
      rw [← HPP.out] at a1
      rw [← e1] at a2
      exact h.push HB2.out a1 a2
    clear hrow hb5 hsz c7 c8 hB h e1 HPP
    obtain ⟨i0, hi, hz0, hz1, hz2⟩ := info_parts Try.info119
    go_region_law (refine step_append_lies _ rfl (.tmp 40) (.tmp 42) 76 rfl B 119 i0 _ 11 88 Try.underlying76 hi hz0 hz1 hz2 rfl (by decide) _ _ _ rfl HO.out ⟨w3.heap.size + 1, 0, none⟩ 1 1 [I pk, I pv, I po, I ph, I pn, I pl, I pw, I ps, I pm, I pa, I pt] rfl rfl HN.out H1.out (by decide) HM.out HY.out HB.out (w3.heap.size + 2) HH.out ?_; intro g cp w4 ho4 hg4 _ _; obtain ⟨cc1, cc2⟩ := HC.out _ hg4; have hfin := HP.out _ _ ho4 hg4; replace hfin : Hid _ := hfin; clear hg4 ho4)
    all_goals
      go_wp2
      go_ret2
      exact ⟨rfl, ⟨_, hfin.out.1⟩, hfin.out.2⟩

end Go.Proofs.Ytjnmpejcegmkhaa
