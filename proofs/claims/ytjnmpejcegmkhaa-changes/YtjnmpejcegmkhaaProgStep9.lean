/- Contracts of the program's stepAtLeaf, step and Step. No statement of the seat is proved here. -/
import Derived.Test.YtjnmpejcegmkhaaProgStep7
import Derived.Test.YtjnmpejcegmkhaaProgStep8
namespace Go.Proofs.Ytjnmpejcegmkhaa
open Go.RowKit

section
variable {w : World} {B : Nat} {L : PLay} {v i g : Nat} {W : World} {n : PN} {q : PP}

set_option maxHeartbeats 2000000 in
theorem atLeaf_ticket (h : PF w B L v i g W n q) (hph : q.phase = 12) {R : World → Prop}
    (hc : ∀ W', Below W.heap.size W W' → Calls Try.prog 132 #[.pointer (some ⟨g, i * 11, none⟩), .pointer (some ⟨L.tb, 8 + v * 21, none⟩)] W' fun e w' => e = .returned (.tuple #[]) ∧ R w') :
    Calls Try.prog 102 #[.pointer (some ⟨L.tb, 0, none⟩), .pointer (some ⟨g, i * 11, none⟩), .pointer (some ⟨L.tb, 8 + v * 21, none⟩)] W fun e w' => e = .returned (.tuple #[]) ∧ R w' := by
  have c3 := h.pcell 3 (by omega)
  simp only [ppCells, List.getElem?_cons_succ, List.getElem?_cons_zero] at c3
  rw [hph] at c3
  replace hc : Hid _ := hc
  clear h hph
  go_enter Try.func102, Try.ntmps102
  go_wp2_with fail
  refine Calls.mono (hc.out _ (Below.refl _ _)) ?_
  rintro e w1 ⟨rfl, hf⟩
  go_wp2_with fail
  go_end0
  exact ⟨rfl, hf⟩

set_option maxHeartbeats 2000000 in
theorem atLeaf_fetch (h : PF w B L v i g W n q) (hph : q.phase = 14) {R : World → Prop}
    (hc : ∀ W', Below W.heap.size W W' → Calls Try.prog 135 #[.pointer (some ⟨g, i * 11, none⟩), .pointer (some ⟨L.tb, 8 + v * 21, none⟩)] W' fun e w' => e = .returned (.tuple #[]) ∧ R w') :
    Calls Try.prog 102 #[.pointer (some ⟨L.tb, 0, none⟩), .pointer (some ⟨g, i * 11, none⟩), .pointer (some ⟨L.tb, 8 + v * 21, none⟩)] W fun e w' => e = .returned (.tuple #[]) ∧ R w' := by
  have c3 := h.pcell 3 (by omega)
  simp only [ppCells, List.getElem?_cons_succ, List.getElem?_cons_zero] at c3
  rw [hph] at c3
  replace hc : Hid _ := hc
  clear h hph
  go_enter Try.func102, Try.ntmps102
  go_wp2_with fail
  refine Calls.mono (hc.out _ (Below.refl _ _)) ?_
  rintro e w1 ⟨rfl, hf⟩
  go_wp2_with fail
  go_end0
  exact ⟨rfl, hf⟩

set_option maxHeartbeats 2000000 in
theorem atLeaf_store (h : PF w B L v i g W n q) (hv : q.node = (v : Int)) (hs0 : 0 ≤ L.c.slots) (hs4 : L.c.slots ≤ 4) (hd0 : 0 ≤ L.c.depth) (hd4 : L.c.depth ≤ 4) (hld : (Nat.log2 v : Int) ≤ L.c.depth) (hph : q.phase = 13) {R : World → Prop}
    (hc : ∀ W', Below W.heap.size W W' → Calls Try.prog 134 #[.pointer (some ⟨g, i * 11, none⟩), .pointer (some ⟨L.tb, 8 + v * 21, none⟩), I (roomOf L.c v)] W' fun e w' => e = .returned (.tuple #[]) ∧ R w') :
    Calls Try.prog 102 #[.pointer (some ⟨L.tb, 0, none⟩), .pointer (some ⟨g, i * 11, none⟩), .pointer (some ⟨L.tb, 8 + v * 21, none⟩)] W fun e w' => e = .returned (.tuple #[]) ∧ R w' := by
  obtain ⟨cap, c3, c4, c7, p1, p2, p3, p4, hi, hv32, fz, fn, hne, lN, lQ⟩ := h.facts
  rw [hph] at c3
  rw [hv] at c4
  have hr := fun W' (hb : Below W.heap.size W W') => room_c (h.rep.below hb) v (by omega) hs0 hs4 hd0 hd4 hld
  replace hr : Hid _ := hr
  replace hc : Hid _ := hc
  generalize L.procs.length = np at *
  clear h hph hv
  go_enter Try.func102, Try.ntmps102
  go_wp2_with fail
  first
  | refine Calls.mono (hr.out _ (Below.refl _ _)) ?_
  | (go_region_with (go_at_call 133; refine Calls.mono (hr.out _ (Below.refl _ _).drew) ?_))
  rintro e w1 ⟨rfl, hb⟩
  go_wp2_with fail
  refine Calls.mono (hc.out _ hb) ?_
  rintro e w2 ⟨rfl, hf⟩
  go_wp2_with fail
  go_end0
  exact ⟨rfl, hf⟩

set_option maxHeartbeats 2000000 in
theorem pstep_enter (h : PF w B L v i g W n q) (hv : q.node = (v : Int)) (hph : q.phase = 0) (draw : Int) (h0 : 0 ≤ n.inside) (h9 : n.inside ≤ 1000000) :
    Calls Try.prog 81 #[.pointer (some ⟨L.tb, 0, none⟩), I i, I draw] W fun e w' => e = .returned (.tuple #[]) ∧ PF w B L v i g w' { n with inside := n.inside + 1 } { q with phase := 1 } := by
  obtain ⟨cap, c3, c4, c7, p1, p2, p3, p4, hi, hv32, fz, fn, hne, lN, lQ⟩ := h.facts
  rw [hph] at c3
  rw [hv] at c4
  have d3 := h.ncell 3 (by omega)
  simp only [pnCells, List.getElem?_cons_succ, List.getElem?_cons_zero] at d3
  have HE : Hid (PF w B L v i g ((W.setCell ⟨L.tb, 8 + v * 21 + 3, none⟩ (I (n.inside + 1))).setCell ⟨g, i * 11 + 3, none⟩ (I 1)) { n with inside := n.inside + 1 } { q with phase := 1 }) :=
    (h.setN 3 (by omega) (I (n.inside + 1)) { n with inside := n.inside + 1 } rfl rfl rfl).setQ 3 (by omega) (I 1) _ rfl
  generalize L.procs.length = np at *
  clear h hph hv
  go_enter Try.func81, Try.ntmps81
  go_wp2_with fail
  go_region
  go_wp2
  go_end0
  exact ⟨rfl, HE.out.drew⟩

set_option maxHeartbeats 2000000 in
theorem pstep_back (h : PF w B L v i g W n q) (hv : q.node = (v : Int)) (hph : q.phase = 2) (draw : Int) (h0 : 0 ≤ n.inside) (h9 : n.inside ≤ 1000000) :
    Calls Try.prog 81 #[.pointer (some ⟨L.tb, 0, none⟩), I i, I draw] W fun e w' => e = .returned (.tuple #[]) ∧ PF w B L v i g w' { n with inside := n.inside - 1 } { q with phase := 0 } := by
  obtain ⟨cap, c3, c4, c7, p1, p2, p3, p4, hi, hv32, fz, fn, hne, lN, lQ⟩ := h.facts
  rw [hph] at c3
  rw [hv] at c4
  have d3 := h.ncell 3 (by omega)
  simp only [pnCells, List.getElem?_cons_succ, List.getElem?_cons_zero] at d3
  have HE : Hid (PF w B L v i g ((W.setCell ⟨L.tb, 8 + v * 21 + 3, none⟩ (I (n.inside - 1))).setCell ⟨g, i * 11 + 3, none⟩ (I 0)) { n with inside := n.inside - 1 } { q with phase := 0 }) :=
    (h.setN 3 (by omega) (I (n.inside - 1)) { n with inside := n.inside - 1 } rfl rfl rfl).setQ 3 (by omega) (I 0) _ rfl
  generalize L.procs.length = np at *
  clear h hph hv
  go_enter Try.func81, Try.ntmps81
  go_wp2_with fail
  go_region
  go_wp2
  go_end0
  exact ⟨rfl, HE.out.drew⟩

set_option maxHeartbeats 2000000 in
theorem pstep_leave (h : PF w B L v i g W n q) (hv : q.node = (v : Int)) (hph : q.phase = 19) (draw : Int) (h0 : 0 ≤ n.inside) (h9 : n.inside ≤ 1000000) :
    Calls Try.prog 81 #[.pointer (some ⟨L.tb, 0, none⟩), I i, I draw] W fun e w' => e = .returned (.tuple #[]) ∧ PF w B L v i g w' { n with inside := n.inside - 1 } (leavePP q) := by
  obtain ⟨cap, c3, c4, c7, p1, p2, p3, p4, hi, hv32, fz, fn, hne, lN, lQ⟩ := h.facts
  have hd := fun W' (hb : Below _ _ W') => leave_c ((h.setN 3 (by omega) (I (n.inside - 1)) { n with inside := n.inside - 1 } rfl rfl rfl).below (W' := W') hb) (by omega) (by omega)
  replace hd : Hid _ := hd
  rw [hph] at c3
  rw [hv] at c4
  have d3 := h.ncell 3 (by omega)
  simp only [pnCells, List.getElem?_cons_succ, List.getElem?_cons_zero] at d3
  generalize L.procs.length = np at *
  clear h hph hv
  go_enter Try.func81, Try.ntmps81
  go_wp2_with fail
  go_region
  go_wp2_with fail
  refine Calls.mono (hd.out _ (Below.refl _ _).drew) ?_
  rintro e w1 ⟨rfl, hf⟩
  go_wp2_with fail
  go_end0
  exact ⟨rfl, hf⟩

set_option maxHeartbeats 2000000 in
theorem pstep_look (h : PF w B L v i g W n q) (hv : q.node = (v : Int)) (hph : q.phase = 1) (draw : Int) {R : World → Prop}
    (hc : ∀ W', Below W.heap.size W W' → Calls Try.prog 99 #[.pointer (some ⟨g, i * 11, none⟩), .pointer (some ⟨L.tb, 8 + v * 21, none⟩)] W' fun e w' => e = .returned (.tuple #[]) ∧ R w') :
    Calls Try.prog 81 #[.pointer (some ⟨L.tb, 0, none⟩), I i, I draw] W fun e w' => e = .returned (.tuple #[]) ∧ R w' := by
  obtain ⟨cap, c3, c4, c7, p1, p2, p3, p4, hi, hv32, fz, fn, hne, lN, lQ⟩ := h.facts
  rw [hph] at c3
  rw [hv] at c4
  replace hc : Hid _ := hc
  generalize L.procs.length = np at *
  clear h hph hv
  go_enter Try.func81, Try.ntmps81
  go_wp2_with fail
  go_region
  go_wp2_with fail
  refine Calls.mono (hc.out _ (Below.refl _ _).drew) ?_
  rintro e w1 ⟨rfl, hf⟩
  go_wp2_with fail
  go_end0
  exact ⟨rfl, hf⟩

set_option maxHeartbeats 2000000 in
theorem pstep_toggle (h : PF w B L v i g W n q) (hv : q.node = (v : Int)) (hph : q.phase = 11) (draw : Int) {R : World → Prop}
    (hc : ∀ W', Below W.heap.size W W' → Calls Try.prog 101 #[.pointer (some ⟨g, i * 11, none⟩), .pointer (some ⟨L.tb, 8 + v * 21, none⟩)] W' fun e w' => e = .returned (.tuple #[]) ∧ R w') :
    Calls Try.prog 81 #[.pointer (some ⟨L.tb, 0, none⟩), I i, I draw] W fun e w' => e = .returned (.tuple #[]) ∧ R w' := by
  obtain ⟨cap, c3, c4, c7, p1, p2, p3, p4, hi, hv32, fz, fn, hne, lN, lQ⟩ := h.facts
  rw [hph] at c3
  rw [hv] at c4
  replace hc : Hid _ := hc
  generalize L.procs.length = np at *
  clear h hph hv
  go_enter Try.func81, Try.ntmps81
  go_wp2_with fail
  go_region
  go_wp2_with fail
  refine Calls.mono (hc.out _ (Below.refl _ _).drew) ?_
  rintro e w1 ⟨rfl, hf⟩
  go_wp2_with fail
  go_end0
  exact ⟨rfl, hf⟩

set_option maxHeartbeats 4000000 in
theorem pstep_slot (h : PF w B L v i g W n q) (hv : q.node = (v : Int)) (hph : q.phase = 3 ∨ q.phase = 4 ∨ q.phase = 5 ∨ q.phase = 6 ∨ q.phase = 7 ∨ q.phase = 8 ∨ q.phase = 9 ∨ q.phase = 10) (draw : Int) {R : World → Prop}
    (hc : ∀ W', Below W.heap.size W W' → Calls Try.prog 100 #[.pointer (some ⟨L.tb, 0, none⟩), I i, I draw] W' fun e w' => e = .returned (.tuple #[]) ∧ R w') :
    Calls Try.prog 81 #[.pointer (some ⟨L.tb, 0, none⟩), I i, I draw] W fun e w' => e = .returned (.tuple #[]) ∧ R w' := by
  obtain ⟨cap, c3, c4, c7, p1, p2, p3, p4, hi, hv32, fz, fn, hne, lN, lQ⟩ := h.facts
  rw [hv] at c4
  replace hc : Hid _ := hc
  generalize L.procs.length = np at *
  clear h hv
  rcases hph with hph | hph | hph | hph | hph | hph | hph | hph
  all_goals
    rw [hph] at c3
    clear hph
    go_enter Try.func81, Try.ntmps81
    go_wp2_with fail
    go_region
    go_wp2_with fail
    refine Calls.mono (hc.out _ (Below.refl _ _).drew) ?_
    rintro e w1 ⟨rfl, hf⟩
    go_wp2_with fail
    go_end0
    exact ⟨rfl, hf⟩

set_option maxHeartbeats 4000000 in
theorem pstep_leaf (h : PF w B L v i g W n q) (hv : q.node = (v : Int)) (hph : q.phase = 12 ∨ q.phase = 13 ∨ q.phase = 14) (draw : Int) {R : World → Prop}
    (hc : ∀ W', Below W.heap.size W W' → Calls Try.prog 102 #[.pointer (some ⟨L.tb, 0, none⟩), .pointer (some ⟨g, i * 11, none⟩), .pointer (some ⟨L.tb, 8 + v * 21, none⟩)] W' fun e w' => e = .returned (.tuple #[]) ∧ R w') :
    Calls Try.prog 81 #[.pointer (some ⟨L.tb, 0, none⟩), I i, I draw] W fun e w' => e = .returned (.tuple #[]) ∧ R w' := by
  obtain ⟨cap, c3, c4, c7, p1, p2, p3, p4, hi, hv32, fz, fn, hne, lN, lQ⟩ := h.facts
  rw [hv] at c4
  replace hc : Hid _ := hc
  generalize L.procs.length = np at *
  clear h hv
  rcases hph with hph | hph | hph
  all_goals
    rw [hph] at c3
    clear hph
    go_enter Try.func81, Try.ntmps81
    go_wp2_with fail
    go_region
    go_wp2_with fail
    refine Calls.mono (hc.out _ (Below.refl _ _).drew) ?_
    rintro e w1 ⟨rfl, hf⟩
    go_wp2_with fail
    go_end0
    exact ⟨rfl, hf⟩

set_option maxHeartbeats 4000000 in
theorem pStep_ok (h : PF w B L v i g W n q) (hph : q.phase ≠ 20) (draw : Int) {R : PN → PP → Prop}
    (hc : ∀ W', Below W.heap.size W W' → Calls Try.prog 81 #[.pointer (some ⟨L.tb, 0, none⟩), I i, I draw] W' fun e w' => e = .returned (.tuple #[]) ∧ ∃ n' q', PF w B L v i g w' n' q' ∧ R n' q') :
    Calls Try.prog 57 #[.pointer (some ⟨L.tb, 0, none⟩), I i, I draw] W fun e w' => ∃ n' q', e = .returned (.tuple #[I q'.phase, I 0]) ∧ PF w B L v i g w' n' q' ∧ R n' q' := by
  obtain ⟨cap, c3, c4, c7, p1, p2, p3, p4, hi, hv32, fz, fn, hne, lN, lQ⟩ := h.facts
  have b1 : (q.phase == 20) = false := by simp [hph]
  have hi0 : decide ((i : Int) < 0) = false := by simp
  have HF : Hid (∀ w' n' q', PF w B L v i g w' n' q' → ∃ cap, w'.cell? ⟨g, i * 11 + 3, none⟩ = some (I q'.phase) ∧ w'.cell? ⟨L.tb, 680, none⟩ = some (.slice (some ⟨g, 0, none⟩) L.procs.length cap) ∧ L.procs.length ≤ cap ∧ L.procs.length ≤ 2 ^ 63 - 1 ∧ cap ≤ 2 ^ 63 - 1) := by
    intro w' n' q' hf
    obtain ⟨cap', p1', p2', p3', p4'⟩ := hf.pv
    exact ⟨cap', hf.pcell 3 (by omega), p1', p2', p3', p4'⟩
  replace hc : Hid _ := hc
  generalize L.procs.length = np at *
  clear h hph
  go_enter Try.func57, Try.ntmps57
  go_wp2_with fail
  refine Calls.mono (hc.out _ (Below.refl _ _)) ?_
  rintro e w1 ⟨rfl, n', q', hf, hR⟩
  obtain ⟨cap', e3, e680, e1, e2, e4⟩ := HF.out _ _ _ hf
  clear hc HF c3 c4 c7 p1 fz fn lN lQ
  replace hf : Hid _ := hf
  replace hR : Hid _ := hR
  go_wp2
  go_ret2
  exact ⟨n', q', rfl, hf.out, hR.out⟩

set_option maxHeartbeats 2000000 in
theorem pStep_done (h : PF w B L v i g W n q) (hph : q.phase = 20) (draw : Int) :
    Calls Try.prog 57 #[.pointer (some ⟨L.tb, 0, none⟩), I i, I draw] W fun e w' => e = .returned (.tuple #[I 0, I 5]) ∧ Below W.heap.size W w' := by
  obtain ⟨cap, c3, c4, c7, p1, p2, p3, p4, hi, hv32, fz, fn, hne, lN, lQ⟩ := h.facts
  rw [hph] at c3
  have hi0 : decide ((i : Int) < 0) = false := by simp
  generalize L.procs.length = np at *
  clear h hph
  go_enter Try.func57, Try.ntmps57
  go_wp2
  go_ret2
  exact ⟨rfl, Below.refl _ _⟩
end

set_option maxHeartbeats 2000000 in
theorem pStep_none {W : World} {B : Nat} {L : PLay} (h : PRep W B L) (p : Int) (hp : p < 0 ∨ (L.procs.length : Int) ≤ p) (draw : Int) :
    Calls Try.prog 57 #[.pointer (some ⟨L.tb, 0, none⟩), I p, I draw] W fun e w' => e = .returned (.tuple #[I 0, I 5]) ∧ Below W.heap.size W w' := by
  have p1 := h.pcell
  obtain ⟨ao, cap, e1, q1, q2, q3, hx⟩ := h.pp_at
  rw [e1] at p1
  unfold maxLen at q2 q3
  clear h hx e1
  generalize L.procs.length = np at *
  by_cases h0 : p < 0
  · clear hp
    go_enter Try.func57, Try.ntmps57
    go_wp2
    go_ret2
    exact ⟨rfl, Below.refl _ _⟩
  · have hd : decide (p < 0) = false := by simp; omega
    have hge : (np : Int) ≤ p := by omega
    clear hp
    go_enter Try.func57, Try.ntmps57
    go_wp2
    go_ret2
    exact ⟨rfl, Below.refl _ _⟩

end Go.Proofs.Ytjnmpejcegmkhaa
