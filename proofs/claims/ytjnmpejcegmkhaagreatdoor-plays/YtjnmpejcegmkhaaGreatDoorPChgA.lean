/- Contracts of the program's look of a Fold or an Unfold (seek, childTowards), of shutGate, drain, and of stepAtTarget in the phases Shut, Drain and Reopen. Contracts of the program's lay and layInTurn. No statement of the seat is proved here. -/
import Derived.Test.YtjnmpejcegmkhaaGreatDoorPStA
import Derived.Test.YtjnmpejcegmkhaaGreatDoorRefChgA
namespace Go.Proofs.YtjnmpejcegmkhaaGreatDoor
open Go.RowKit

def towards : Nat → Nat → Nat → Nat
  | 0, c, _ => c
  | f + 1, c, v => if v < c / 2 then towards f (c / 2) v else c
theorem towards_stop (f c v : Nat) (h : ¬ v < c / 2) : towards f c v = c := by cases f <;> simp [towards, h]

set_option maxHeartbeats 1000000 in
theorem childTowards_c (v o : Nat) (ho : o < 64) (w : World) :
    Calls Tryz.prog 116 #[I v, I o] w fun e w' => e = .returned (I (towards 6 o v)) ∧ w' = w := by
  go_enter Tryz.func116, Tryz.ntmps116
  go_wp2
  go_loop [5] (fun x => ∃ f c : Nat, c < 2 ^ f ∧ c < 64 ∧ Hid (towards f c v = towards 6 o v) ∧ x = .int .i64 c) (fun x => (intOf x).toNat)
  case atStart => exact ⟨6, o, ho, ho, rfl, rfl⟩
  case round =>
    obtain ⟨f, c, h1, h2, h3, rfl⟩ := hrel
    by_cases hgt : v < c / 2
    · cases f with
      | zero => exfalso; simp at h1; omega
      | succ f =>
        have H3 : Hid (towards f (c / 2) v = towards 6 o v) := by have := h3.out; simp only [towards, hgt, if_true] at this; exact this
        have h1' : c / 2 < 2 ^ f := by rw [Nat.pow_succ] at h1; omega
        replace h1' : Hid _ := h1'
        clear h3 h1
        go_wp2
        go_round
        case rel => exact ⟨f, c / 2, h1', by omega, H3, by go_num⟩
        case measure => simp [intOf]; omega
    · have H3 : Hid (((c : Nat) : Int) = ((towards 6 o v : Nat) : Int)) := by have := h3.out; rw [towards_stop _ _ _ hgt] at this; show _ = _; rw [this]
      clear h3 h1
      go_wp2
      go_ret
      exact ⟨ret_i H3.out, rfl⟩

section
variable {w : World} {B : Nat} {L : PLay} {v i g : Nat} {W : World} {n : PN} {q : PP}

abbrev seekPP (n : PN) (q : PP) (v o : Nat) : PP := if n.inner = false then { q with val := 2, phase := 19 } else { q with node := ((towards 6 o v : Nat) : Int), phase := if towards 6 o v = o then 15 else 0 }

set_option maxHeartbeats 2000000 in
theorem seek_c (h : PF w B L v i g W n q) (hv : q.node = (v : Int)) {o : Nat} (ho : q.onode = (o : Int)) (ho6 : o < 64) :
    Calls Tryz.prog 92 #[.pointer (some ⟨g, i * 11, none⟩), .pointer (some ⟨L.tb, 8 + v * 21, none⟩)] W fun e w' => e = .returned (.tuple #[]) ∧ PF w B L v i g w' n (seekPP n q v o) := by
  have c2 := h.pcell 2 (by omega)
  have c3 := h.pcell 3 (by omega)
  have c4 := h.pcell 4 (by omega)
  have c5 := h.pcell 5 (by omega)
  have d1 := h.ncell 1 (by omega)
  have fz := h.fzQ
  simp only [ppCells, pnCells, List.getElem?_cons_succ, List.getElem?_cons_zero] at c2 c3 c4 c5 d1
  rw [hv] at c4
  rw [ho] at c2
  cases hin : n.inner with
  | false =>
    rw [hin] at d1
    have HE : Hid (PF w B L v i g ((W.setCell ⟨g, i * 11 + 5, none⟩ (I 2)).setCell ⟨g, i * 11 + 3, none⟩ (I 19)) n (seekPP n q v o)) := by
      have := (h.setQ 5 (by omega) (I 2) { q with val := 2 } rfl).setQ 3 (by omega) (I 19) { q with val := 2, phase := 19 } rfl
      show PF _ _ _ _ _ _ _ _ _
      unfold seekPP
      rw [if_pos hin]
      exact this
    clear h hin hv ho
    go_enter Tryz.func92, Tryz.ntmps92
    go_wp2
    exact bodyPost_ret (v := .tuple #[]) (by simp [results, Tryz.results92, go_sem]) rfl ⟨rfl, HE.out⟩
  | true =>
    rw [hin] at d1
    have hc := fun W => childTowards_c v o ho6 W
    have hne : ¬ n.inner = false := by rw [hin]; simp
    have HS : Hid (seekPP n q v o = { q with node := ((towards 6 o v : Nat) : Int), phase := if towards 6 o v = o then 15 else 0 }) := by show _ = _; unfold seekPP; rw [if_neg hne]
    rw [HS.out]
    generalize towards 6 o v = tw at *
    replace hc : Hid _ := hc
    by_cases he : tw = o
    · rw [if_pos he]
      have b1 : ((tw : Int) == (o : Int)) = true := by simp [he]
      have HE : Hid (PF w B L v i g ((W.setCell ⟨g, i * 11 + 4, none⟩ (I tw)).setCell ⟨g, i * 11 + 3, none⟩ (I 15)) n { q with node := (tw : Int), phase := 15 }) :=
        (h.setQ 4 (by omega) (I tw) { q with node := tw } rfl).setQ 3 (by omega) (I 15) { q with node := tw, phase := 15 } rfl
      clear h hin hv ho hne HS he
      go_enter Tryz.func92, Tryz.ntmps92
      go_wp2_with fail
      go_region_with (go_at_call 116; refine Calls.mono (hc.out _) ?_; rintro e w1 ⟨rfl, rfl⟩)
      all_goals
        go_wp2_with fail
        go_region
        go_wp2
        go_end0
        exact ⟨rfl, HE.out.drew.drew⟩
    · rw [if_neg he]
      have b1 : ((tw : Int) == (o : Int)) = false := by simp; omega
      have HE : Hid (PF w B L v i g ((W.setCell ⟨g, i * 11 + 4, none⟩ (I tw)).setCell ⟨g, i * 11 + 3, none⟩ (I 0)) n { q with node := (tw : Int), phase := 0 }) :=
        (h.setQ 4 (by omega) (I tw) { q with node := tw } rfl).setQ 3 (by omega) (I 0) { q with node := tw, phase := 0 } rfl
      clear h hin hv ho hne HS he
      go_enter Tryz.func92, Tryz.ntmps92
      go_wp2_with fail
      go_region_with (go_at_call 116; refine Calls.mono (hc.out _) ?_; rintro e w1 ⟨rfl, rfl⟩)
      all_goals
        go_wp2_with fail
        go_region
        go_wp2
        go_end0
        exact ⟨rfl, HE.out.drew.drew⟩

set_option maxHeartbeats 2000000 in
theorem plook_shut (h : PF w B L v i g W n q) (hs : n.shut = true) :
    Calls Tryz.prog 67 #[.pointer (some ⟨g, i * 11, none⟩), .pointer (some ⟨L.tb, 8 + v * 21, none⟩)] W fun e w' => e = .returned (.tuple #[]) ∧ PF w B L v i g w' n { q with phase := 2 } := by
  have c3 := h.pcell 3 (by omega)
  have d2 := h.ncell 2 (by omega)
  have fz := h.fzQ
  simp only [ppCells, pnCells, List.getElem?_cons_succ, List.getElem?_cons_zero] at c3 d2
  have HE : Hid (PF w B L v i g (W.setCell ⟨g, i * 11 + 3, none⟩ (I 2)) n { q with phase := 2 }) := h.setQ 3 (by omega) (I 2) _ rfl
  rw [hs] at d2
  clear h hs
  go_enter Tryz.func67, Tryz.ntmps67
  go_wp2
  go_end0
  exact ⟨rfl, HE.out⟩

set_option maxHeartbeats 2000000 in
theorem plook_change (h : PF w B L v i g W n q) (hs : n.shut = false) (hk : q.kind = 3 ∨ q.kind = 4) (hv : q.node = (v : Int)) {o : Nat} (ho : q.onode = (o : Int)) (ho6 : o < 64) :
    Calls Tryz.prog 67 #[.pointer (some ⟨g, i * 11, none⟩), .pointer (some ⟨L.tb, 8 + v * 21, none⟩)] W fun e w' => e = .returned (.tuple #[]) ∧ PF w B L v i g w' n (seekPP n q v o) := by
  have c0 := h.pcell 0 (by omega)
  have c1 := h.pcell 1 (by omega)
  have c2 := h.pcell 2 (by omega)
  have d2 := h.ncell 2 (by omega)
  simp only [ppCells, pnCells, List.getElem?_cons_succ, List.getElem?_cons_zero, Nat.add_zero] at c0 c1 c2 d2
  have hch : isChange ⟨q.kind, q.oval, q.onode⟩ = true := by
    unfold isChange
    rcases hk with e | e <;> simp [e]
  have hc := fun W => pchanges_c ⟨q.kind, q.oval, q.onode⟩ W
  rw [hch] at hc
  unfold opV at hc
  simp only at hc
  have hsk := fun W' (hb : Below W.heap.size W W') => seek_c (h.below hb) hv ho ho6
  replace hc : Hid _ := hc
  replace hsk : Hid _ := hsk
  rw [hs] at d2
  generalize seekPP n q v o = sq at *
  clear h hs hch hk hv ho
  go_enter Tryz.func67, Tryz.ntmps67
  go_wp2_with fail
  refine Calls.mono (hc.out _) ?_
  rintro e w1 ⟨rfl, hb⟩
  go_wp2_with fail
  refine Calls.mono (hsk.out _ hb) ?_
  rintro e w2 ⟨rfl, hf⟩
  go_wp2_with fail
  go_end0
  exact ⟨rfl, hf⟩

set_option maxHeartbeats 2000000 in
theorem shutGate_no (h : PF w B L v i g W n q) (hn0 : 0 ≤ q.node) (hn : q.node ≤ 1000000) (x : Int) (hno : n.shut = true ∨ n.inner ≠ decide (q.kind = 3)) :
    Calls Tryz.prog 105 #[.pointer (some ⟨g, i * 11, none⟩), .pointer (some ⟨L.tb, 8 + v * 21, none⟩), I x] W fun e w' => e = .returned (.tuple #[]) ∧ PF w B L v i g w' n (leavePP { q with val := 2 }) := by
  have c0 := h.pcell 0 (by omega)
  have c5 := h.pcell 5 (by omega)
  have d1 := h.ncell 1 (by omega)
  have d2 := h.ncell 2 (by omega)
  have fz := h.fzQ
  simp only [ppCells, pnCells, List.getElem?_cons_succ, List.getElem?_cons_zero, Nat.add_zero] at c0 c5 d1 d2
  have hd := fun W' (hb : Below _ _ W') => leave_c ((h.setQ 5 (by omega) (I 2) { q with val := 2 } rfl).below (W' := W') hb) hn0 hn
  replace hd : Hid _ := hd
  have hb3 : (q.kind == 3) = decide (q.kind = 3) := rfl
  generalize hk : decide (q.kind = 3) = k3 at *
  generalize hsx : n.shut = sx at *
  generalize hix : n.inner = ix at *
  clear h hk hsx hix
  cases sx
  · cases ix <;> cases k3
    case false.false.false => simp at hno
    case false.true.true => simp at hno
    all_goals
      clear hno
      go_enter Tryz.func105, Tryz.ntmps105
      go_wp2_with fail
      try go_region
      go_wp2_with fail
      refine Calls.mono (hd.out _ (by first | exact Below.refl _ _ | exact (Below.refl _ _).drew)) ?_
      rintro e w1 ⟨rfl, hf⟩
      go_wp2_with fail
      exact bodyPost_ret (v := .tuple #[]) (by simp [results, Tryz.results105, go_sem]) rfl ⟨rfl, hf⟩
  · clear hno
    go_enter Tryz.func105, Tryz.ntmps105
    go_wp2_with fail
    refine Calls.mono (hd.out _ (by first | exact Below.refl _ _ | exact (Below.refl _ _).drew)) ?_
    rintro e w1 ⟨rfl, hf⟩
    go_wp2_with fail
    exact bodyPost_ret (v := .tuple #[]) (by simp [results, Tryz.results105, go_sem]) rfl ⟨rfl, hf⟩

set_option maxHeartbeats 2000000 in
theorem shutGate_yes (h : PF w B L v i g W n q) (x : Int) (hs : n.shut = false) (hin : n.inner = decide (q.kind = 3)) :
    Calls Tryz.prog 105 #[.pointer (some ⟨g, i * 11, none⟩), .pointer (some ⟨L.tb, 8 + v * 21, none⟩), I x] W fun e w' => e = .returned (.tuple #[]) ∧ PF w B L v i g w' { n with shut := true } { q with pat := x, phase := 16 } := by
  have c0 := h.pcell 0 (by omega)
  have c3 := h.pcell 3 (by omega)
  have c9 := h.pcell 9 (by omega)
  have d1 := h.ncell 1 (by omega)
  have d2 := h.ncell 2 (by omega)
  have fz := h.fzQ
  have fn := h.fzN
  have hne := h.ne
  simp only [ppCells, pnCells, List.getElem?_cons_succ, List.getElem?_cons_zero, Nat.add_zero] at c0 c3 c9 d1 d2
  have HE : Hid (PF w B L v i g (((W.setCell ⟨L.tb, 8 + v * 21 + 2, none⟩ (.bool true)).setCell ⟨g, i * 11 + 9, none⟩ (I x)).setCell ⟨g, i * 11 + 3, none⟩ (I 16)) { n with shut := true } { q with pat := x, phase := 16 }) :=
    ((h.setN 2 (by omega) (.bool true) { n with shut := true } rfl rfl rfl).setQ 9 (by omega) (I x) { q with pat := x } rfl).setQ 3 (by omega) (I 16) { q with pat := x, phase := 16 } rfl
  have hb3 : (q.kind == 3) = decide (q.kind = 3) := rfl
  rw [hs] at d2
  rw [hin] at d1
  generalize hk : decide (q.kind = 3) = k3 at *
  clear h hs hin hk
  cases k3
  all_goals
    go_enter Tryz.func105, Tryz.ntmps105
    go_wp2
    go_end0
    exact ⟨rfl, HE.out⟩

abbrev drainPP (n : PN) (q : PP) : PP := if n.inside = 0 then { q with phase := 17 } else if 0 < q.pat then { q with pat := q.pat - 1 } else { q with phase := 18 }

set_option maxHeartbeats 2000000 in
theorem drain_c (h : PF w B L v i g W n q) (hp9 : q.pat ≤ 1000000) :
    Calls Tryz.prog 106 #[.pointer (some ⟨g, i * 11, none⟩), .pointer (some ⟨L.tb, 8 + v * 21, none⟩)] W fun e w' => e = .returned (.tuple #[]) ∧ PF w B L v i g w' n (drainPP n q) := by
  have c3 := h.pcell 3 (by omega)
  have c9 := h.pcell 9 (by omega)
  have d3 := h.ncell 3 (by omega)
  have fz := h.fzQ
  simp only [ppCells, pnCells, List.getElem?_cons_succ, List.getElem?_cons_zero] at c3 c9 d3
  have HD : Hid (drainPP n q = if n.inside = 0 then { q with phase := 17 } else if 0 < q.pat then { q with pat := q.pat - 1 } else { q with phase := 18 }) := rfl
  rw [HD.out]
  clear HD
  by_cases h0 : n.inside = 0
  · rw [if_pos h0]
    have b1 : (n.inside == 0) = true := by simp [h0]
    have HE : Hid (PF w B L v i g (W.setCell ⟨g, i * 11 + 3, none⟩ (I 17)) n { q with phase := 17 }) := h.setQ 3 (by omega) (I 17) _ rfl
    clear h h0
    go_enter Tryz.func106, Tryz.ntmps106
    go_wp2
    go_end0
    exact ⟨rfl, HE.out⟩
  · rw [if_neg h0]
    have b1 : (n.inside == 0) = false := by simp [h0]
    by_cases hp : 0 < q.pat
    · rw [if_pos hp]
      have HE : Hid (PF w B L v i g (W.setCell ⟨g, i * 11 + 9, none⟩ (I (q.pat - 1))) n { q with pat := q.pat - 1 }) := h.setQ 9 (by omega) (I (q.pat - 1)) _ rfl
      clear h h0
      go_enter Tryz.func106, Tryz.ntmps106
      go_wp2
      go_end0
      exact ⟨rfl, HE.out⟩
    · rw [if_neg hp]
      have b2 : decide (0 < q.pat) = false := by simp; omega
      have HE : Hid (PF w B L v i g (W.setCell ⟨g, i * 11 + 3, none⟩ (I 18)) n { q with phase := 18 }) := h.setQ 3 (by omega) (I 18) _ rfl
      clear h h0
      go_enter Tryz.func106, Tryz.ntmps106
      go_wp2
      go_end0
      exact ⟨rfl, HE.out⟩

set_option maxHeartbeats 4000000 in
theorem pstep_target (h : PF w B L v i g W n q) (hv : q.node = (v : Int)) (hph : q.phase = 15 ∨ q.phase = 16 ∨ q.phase = 17 ∨ q.phase = 18) (draw : Int) {R : World → Prop}
    (hc : ∀ W', Below W.heap.size W W' → Calls Tryz.prog 71 #[.pointer (some ⟨L.tb, 0, none⟩), .pointer (some ⟨g, i * 11, none⟩), .pointer (some ⟨L.tb, 8 + v * 21, none⟩)] W' fun e w' => e = .returned (.tuple #[]) ∧ R w') :
    Calls Tryz.prog 42 #[.pointer (some ⟨L.tb, 0, none⟩), I i, I draw] W fun e w' => e = .returned (.tuple #[]) ∧ R w' := by
  obtain ⟨cap, c3, c4, c7, p1, p2, p3, p4, hi, hv32, fz, fn, hne, lN, lQ⟩ := h.facts
  rw [hv] at c4
  replace hc : Hid _ := hc
  generalize L.procs.length = np at *
  clear h hv
  rcases hph with hph | hph | hph | hph
  all_goals
    rw [hph] at c3
    clear hph
    go_enter Tryz.func42, Tryz.ntmps42
    go_wp2_with fail
    go_region
    go_wp2_with fail
    refine Calls.mono (hc.out _ (Below.refl _ _).drew) ?_
    rintro e w1 ⟨rfl, hf⟩
    go_wp2_with fail
    go_end0
    exact ⟨rfl, hf⟩

set_option maxHeartbeats 2000000 in
theorem atTarget_shut (h : PF w B L v i g W n q) (hph : q.phase = 15) {R : World → Prop}
    (hc : ∀ W', Below W.heap.size W W' → Calls Tryz.prog 105 #[.pointer (some ⟨g, i * 11, none⟩), .pointer (some ⟨L.tb, 8 + v * 21, none⟩), I L.c.drain] W' fun e w' => e = .returned (.tuple #[]) ∧ R w') :
    Calls Tryz.prog 71 #[.pointer (some ⟨L.tb, 0, none⟩), .pointer (some ⟨g, i * 11, none⟩), .pointer (some ⟨L.tb, 8 + v * 21, none⟩)] W fun e w' => e = .returned (.tuple #[]) ∧ R w' := by
  have c3 := h.pcell 3 (by omega)
  have k6 := h.rep.ccell 6 (by omega)
  simp only [ppCells, pConf, List.getElem?_cons_succ, List.getElem?_cons_zero] at c3 k6
  rw [hph] at c3
  replace hc : Hid _ := hc
  clear h hph
  go_enter Tryz.func71, Tryz.ntmps71
  go_wp2_with fail
  refine Calls.mono (hc.out _ (Below.refl _ _)) ?_
  rintro e w1 ⟨rfl, hf⟩
  go_wp2_with fail
  go_end0
  exact ⟨rfl, hf⟩

set_option maxHeartbeats 2000000 in
theorem atTarget_drain (h : PF w B L v i g W n q) (hph : q.phase = 16) {R : World → Prop}
    (hc : ∀ W', Below W.heap.size W W' → Calls Tryz.prog 106 #[.pointer (some ⟨g, i * 11, none⟩), .pointer (some ⟨L.tb, 8 + v * 21, none⟩)] W' fun e w' => e = .returned (.tuple #[]) ∧ R w') :
    Calls Tryz.prog 71 #[.pointer (some ⟨L.tb, 0, none⟩), .pointer (some ⟨g, i * 11, none⟩), .pointer (some ⟨L.tb, 8 + v * 21, none⟩)] W fun e w' => e = .returned (.tuple #[]) ∧ R w' := by
  have c3 := h.pcell 3 (by omega)
  simp only [ppCells, List.getElem?_cons_succ, List.getElem?_cons_zero] at c3
  rw [hph] at c3
  replace hc : Hid _ := hc
  clear h hph
  go_enter Tryz.func71, Tryz.ntmps71
  go_wp2_with fail
  refine Calls.mono (hc.out _ (Below.refl _ _)) ?_
  rintro e w1 ⟨rfl, hf⟩
  go_wp2_with fail
  go_end0
  exact ⟨rfl, hf⟩

set_option maxHeartbeats 2000000 in
theorem atTarget_reopen (h : PF w B L v i g W n q) (hph : q.phase = 18) (hn0 : 0 ≤ q.node) (hn : q.node ≤ 1000000) :
    Calls Tryz.prog 71 #[.pointer (some ⟨L.tb, 0, none⟩), .pointer (some ⟨g, i * 11, none⟩), .pointer (some ⟨L.tb, 8 + v * 21, none⟩)] W fun e w' => e = .returned (.tuple #[]) ∧ PF w B L v i g w' { n with shut := false } (leavePP { q with val := 3 }) := by
  have c3 := h.pcell 3 (by omega)
  have c5 := h.pcell 5 (by omega)
  have d2 := h.ncell 2 (by omega)
  have fz := h.fzQ
  have fn := h.fzN
  have hne := h.ne
  simp only [ppCells, pnCells, List.getElem?_cons_succ, List.getElem?_cons_zero] at c3 c5 d2
  rw [hph] at c3
  have hd := leave_c ((h.setN 2 (by omega) (.bool false) { n with shut := false } rfl rfl rfl).setQ 5 (by omega) (I 3) { q with val := 3 } rfl) hn0 hn
  replace hd : Hid _ := hd
  clear h hph
  go_enter Tryz.func71, Tryz.ntmps71
  go_wp2_with fail
  refine Calls.mono hd.out ?_
  rintro e w1 ⟨rfl, hf⟩
  go_wp2_with fail
  go_end0
  exact ⟨rfl, hf⟩
end

/-- A node in a block of its own, with its row of items. -/
structure NB (w : World) (C b : Nat) (n : PN) : Prop where
  blk : w.heap[b]? = some (.cells (pnCells n).toArray 57 (0, 0))
  row : w.ownsRow C 148 2 n.iv n.items.length (n.items.flatMap itCells)
  hC : C ≤ b

/-- Nothing that was there changes but block b and the row v. -/
structure OnlyB (b : Nat) (v : Value) (w w' : World) : Prop where
  os : w'.os = w.os
  tape : w'.tape = w.tape
  output : w'.output = w.output
  size : w.heap.size ≤ w'.heap.size
  block : ∀ k, k < w.heap.size → k ≠ b → some k ≠ v.ownBlock → w'.heap[k]? = w.heap[k]?

theorem OnlyB.below {w w' : World} {C b : Nat} {n : PN} (h : NB w C b n) (ho : OnlyB b n.iv w w') (hC : C ≤ w.heap.size) : Below C w w' :=
  ⟨ho.os, ho.tape, ho.output, ho.size, fun k hk => ho.block k (by omega) (by have := h.hC; omega) (fun e => by have := (h.row.lt k e.symm).1; omega)⟩

abbrev PN.laid (n : PN) (x : Value) (val : Int) : PN := { n with iv := x, items := n.items ++ [(1, val)], puts := n.puts + 1 }

set_option maxHeartbeats 4000000 in
theorem lay_c {w : World} {C b : Nat} {n : PN} (h : NB w C b n) (hC : C ≤ w.heap.size) (val : Int) (hp0 : 0 ≤ n.puts) (hp9 : n.puts ≤ 1000000000000) (hil : n.items.length ≤ 1000000000000) :
    Calls Tryz.prog 125 #[.pointer (some ⟨b, 0, none⟩), I val] w fun e w' => e = .returned (.tuple #[]) ∧ ∃ x, NB w' C b (n.laid x val) ∧ OnlyB b n.iv w w' ∧ (∀ g, x.ownBlock = some g → n.iv.ownBlock = some g ∨ w.heap.size ≤ g) := by
  obtain ⟨f1, f2⟩ := nb_facts h.blk
  have d18 := f1 18
  have d20 := f1 20
  simp only [pnCells, List.getElem?_toArray, List.getElem?_cons_succ, List.getElem?_cons_zero] at d18 d20
  obtain ⟨ao, ic, e1, i1, i2, i3, i4⟩ := ownsRow_cells h.row
  have hlt := (Array.getElem?_eq_some_iff.1 h.blk).1
  have hrow := h.row.alloc (.cells #[I 1, I val] 148)
  have hbn : some b ≠ n.iv.ownBlock := by
    intro e
    obtain ⟨c', hc'⟩ := ownsRow_block h.row e.symm
    rw [h.blk] at hc'
    simp at hc'
  rw [e1] at d20 hrow
  have HO : Hid _ := hrow
  have HN : Hid (∀ j u, [I 1, I val][j]? = some u → (w.alloc (.cells #[I 1, I val] 148)).cell? ((⟨w.heap.size, 0, none⟩ : Addr).add j) = some u) := cells_new w [I 1, I val] 148
  have HC : Hid (∀ w', (w.alloc (.cells #[I 1, I val] 148)).grownBy w' (Value.slice ao n.items.length ic).ownBlock → w'.heap[b]? = some (.cells (pnCells n).toArray 57 (0, 0)) ∧ (w'.cell? ⟨b, 20, none⟩ = some (.slice ao n.items.length ic) ∧ w'.cell? ⟨b, 18, none⟩ = some (I n.puts) ∧ ∀ k, w'.frozen? ⟨b, k, none⟩ = false)) := by
    intro w' hg
    rw [← e1] at hg
    have hb' : w'.heap[b]? = some (.cells (pnCells n).toArray 57 (0, 0)) := by
      rw [hg.block b (by simp; omega) hbn, Below.heap_alloc _ _ _ hlt]; exact h.blk
    obtain ⟨g1, g2⟩ := nb_facts hb'
    refine ⟨hb', ?_, by rw [g1 18]; rfl, g2⟩
    rw [g1 20, ← e1]; rfl
  have HP : Hid (∀ w' gx cx, w'.ownsRow C 148 2 (.slice (some ⟨gx, 0, none⟩) (n.items.length + 1) cx) (n.items.length + 1) (n.items.flatMap itCells ++ [I 1, I val]) → (w.alloc (.cells #[I 1, I val] 148)).grownBy w' (Value.slice ao n.items.length ic).ownBlock → ((Value.slice ao n.items.length ic).ownBlock = some gx ∨ gx = w.heap.size + 1) →
      ∃ x, NB ((w'.setCell ⟨b, 20, none⟩ (.slice (some ⟨gx, 0, none⟩) (n.items.length + 1) cx)).setCell ⟨b, 18, none⟩ (I (n.puts + 1))) C b (n.laid x val) ∧ OnlyB b n.iv w ((w'.setCell ⟨b, 20, none⟩ (.slice (some ⟨gx, 0, none⟩) (n.items.length + 1) cx)).setCell ⟨b, 18, none⟩ (I (n.puts + 1))) ∧ (∀ g, x.ownBlock = some g → n.iv.ownBlock = some g ∨ w.heap.size ≤ g)) := by
    intro w' gx cx ho hg hl
    have hb' := (HC.out w' hg).1
    rw [← e1] at hg hl
    refine ⟨.slice (some ⟨gx, 0, none⟩) (n.items.length + 1) cx, ⟨?_, ?_, h.hC⟩, ?_, ?_⟩
    · exact nb_set (nb_set hb' 20 _) 18 _
    · have r1 := ownsRow_setCell_type ho hb' (by decide) 20 (.slice (some ⟨gx, 0, none⟩) (n.items.length + 1) cx)
      have r2 := ownsRow_setCell_type r1 (nb_set hb' 20 _) (by decide) 18 (I (n.puts + 1))
      have e : (n.items ++ [(1, val)]).flatMap itCells = n.items.flatMap itCells ++ [I 1, I val] := by rw [List.flatMap_append]; rfl
      show World.ownsRow _ C _ 2 _ (n.items ++ [(1, val)]).length ((n.items ++ [(1, val)]).flatMap itCells)
      rw [e, List.length_append]
      exact r2
    · refine ⟨hg.os, hg.tape, hg.output, ?_, fun k hk hkb hkv => ?_⟩
      · have := hg.size
        simp at this
        simp [World.setCell]
        omega
      · rw [Below.heap_setCell _ _ _ _ hkb, Below.heap_setCell _ _ _ _ hkb, hg.block k (by simp; omega) hkv, Below.heap_alloc _ _ _ hk]
    · intro g' hg'
      simp only [Value.ownBlock, Option.some.injEq] at hg'
      subst hg'
      rcases hl with hl | hl
      · exact Or.inl hl
      · exact Or.inr (by omega)
  have hB' : C ≤ w.heap.size + 1 := by omega
  clear hrow i1 i2 i3 i4 h e1 f1 hbn
  obtain ⟨i0, hi0, hz0, hz1, hz2⟩ := info_parts Tryz.info148
  generalize n.items.length = il at *
  go_enter Tryz.func125, Tryz.ntmps125
  go_wp2_with (at_builtin; go_must (refine wpList_append_lies _ rfl _ _ 55 rfl C 148 i0 _ 2 16 Tryz.underlying55 hi0 hz0 hz1 hz2 rfl (by decide) _ _ _ rfl HO.out ⟨w.heap.size, 0, none⟩ 1 1 [I 1, I val] rfl rfl HN.out ?c2 (by decide) ?c3 ?c4 ?c5 (w.heap.size + 1) ?c6 ?_))
  case c2 => intro u hu; simp at hu; rcases hu with rfl | rfl <;> rfl
  case c3 => unfold maxLen; omega
  case c4 => omega
  case c5 => simp; omega
  case c6 => simp
  intro gx cx w4 ho4 hg4 hl4 _
  obtain ⟨_, cc1, cc2, cc3⟩ := HC.out _ hg4
  have hfin := HP.out _ _ _ ho4 hg4 hl4
  replace hfin : Hid _ := hfin
  clear hg4 ho4 hl4 HP HC HN HO d18 d20
  go_wp2
  go_end0
  exact ⟨rfl, hfin.out⟩

theorem OnlyB.chg {w w' : World} {C b : Nat} {n : PN} (h : NB w C b n) (ho : OnlyB b n.iv w w') : ChgT C [57, 148] w w' := by
  refine ⟨ho.os, ho.tape, ho.output, ho.size, fun k hk hc => ho.block k hk ?_ ?_⟩
  · intro e
    subst e
    rcases hc with hc | hc
    · have := h.hC; omega
    · exact hc _ _ _ h.blk (by simp)
  · intro e
    rcases hc with hc | hc
    · have := (h.row.lt k e.symm).1; omega
    · obtain ⟨cur, hb⟩ := ownsRow_block h.row e.symm
      exact hc _ _ _ hb (by simp)

def inTurnTo (x y : List Int) (k : Nat) : List Int := (List.range k).flatMap fun i => (x[i]?).toList ++ (y[i]?).toList
theorem inTurnTo_succ (x y : List Int) (k : Nat) : inTurnTo x y (k + 1) = inTurnTo x y k ++ ((x[k]?).toList ++ (y[k]?).toList) := by simp [inTurnTo, List.range_succ]
theorem inTurnTo_le (x y : List Int) (k : Nat) : (inTurnTo x y k).length ≤ 2 * k := by
  induction k with
  | zero => simp [inTurnTo]
  | succ k ih =>
    rw [inTurnTo_succ]
    simp only [List.length_append]
    have h1 : (x[k]?).toList.length ≤ 1 := by cases x[k]? <;> simp
    have h2 : (y[k]?).toList.length ≤ 1 := by cases y[k]? <;> simp
    omega
def inTurn (x y : List Int) : List Int := inTurnTo x y (max x.length y.length)
abbrev PN.full (n : PN) (z : Value) (l : List Int) : PN := { n with iv := z, items := l.map fun a => (1, a), puts := l.length }
theorem full_laid (n : PN) (z z' : Value) (l : List Int) (a : Int) : (n.full z l).laid z' a = n.full z' (l ++ [a]) := by
  simp [PN.full, PN.laid]

set_option maxHeartbeats 4000000 in
theorem layInTurn_c {w : World} {C b C1 C2 : Nat} {n : PN} (h : NB w C b n) (hit : n.items = []) (hp : n.puts = 0) (hC : C ≤ w.heap.size) (x y : List Int) (xv yv : Value) (hx : w.ownsRow C1 3 1 xv x.length (x.map I)) (hy : w.ownsRow C2 3 1 yv y.length (y.map I)) (lx : x.length ≤ 1000000) (ly : y.length ≤ 1000000) :
    Calls Tryz.prog 126 #[.pointer (some ⟨b, 0, none⟩), xv, yv] w fun e w' => e = .returned (.tuple #[]) ∧ ∃ z, NB w' C b (n.full z (inTurn x y)) ∧ ChgT C [57, 148] w w' := by
  have e0 : n = n.full n.iv [] := by
    have : n.full n.iv [] = { n with items := [], puts := 0 } := rfl
    rw [this]
    cases n
    simp only at hit hp
    subst hit hp
    rfl
  have h0 : NB w C b (n.full n.iv []) := by rw [← e0]; exact h
  have HL : Hid (∀ (W : World) (z : Value) (l : List Int) (a : Int), NB W C b (n.full z l) → C ≤ W.heap.size → l.length ≤ 10000000 → Calls Tryz.prog 125 #[.pointer (some ⟨b, 0, none⟩), I a] W fun e w' => e = .returned (.tuple #[]) ∧ ∃ z', NB w' C b (n.full z' (l ++ [a])) ∧ ChgT C [57, 148] W w') := by
    intro W z l a hW hCW hl
    refine (lay_c hW hCW a (by show (0 : Int) ≤ (l.length : Nat); omega) (by show ((l.length : Nat) : Int) ≤ _; omega) (by show (l.map _).length ≤ _; simp; omega)).mono ?_
    rintro e w' ⟨rfl, z', a1, a2, _⟩
    rw [full_laid] at a1
    exact ⟨rfl, z', a1, a2.chg hW⟩
  have HX : Hid (∀ W, ChgT C [57, 148] w W → Shows W xv x W.heap.size ∧ Shows W yv y W.heap.size) := fun W hc => ⟨Shows.of_row (hc.row hx (by decide)), Shows.of_row (hc.row hy (by decide))⟩
  obtain ⟨xo, xcap, ex, x1, x2, _⟩ := (HX.out w (ChgT.refl _ _ _)).1.ex
  obtain ⟨yo, ycap, ey, y1, y2, _⟩ := (HX.out w (ChgT.refl _ _ _)).2.ex
  subst ex ey
  unfold maxLen at x2 y2
  clear h hx hy e0 hit hp
  go_enter Tryz.func126, Tryz.ntmps126
  go_wp2_with fail
  go_loopw [6] (fun i wr => ∃ (k : Nat) (z : Value), k ≤ max x.length y.length ∧ i = .int .i64 k ∧ NB wr C b (n.full z (inTurnTo x y k)) ∧ ChgT C [57, 148] w wr) (fun i _ => max x.length y.length - (intOf i).toNat)
  case atStart => exact ⟨0, n.iv, by omega, rfl, h0, ChgT.refl _ _ _⟩
  case round =>
    obtain ⟨k, z, hk, rfl, hnb, hch⟩ := hrel
    have hCw : C ≤ wr.heap.size := Nat.le_trans hC hch.size
    have hle := inTurnTo_le x y k
    have HS : Hid (inTurnTo x y (k + 1) = inTurnTo x y k ++ ((x[k]?).toList ++ (y[k]?).toList)) := inTurnTo_succ x y k
    by_cases hkx : k < x.length
    · obtain ⟨⟨_, _, e1, _, _, hx2⟩, _⟩ := HX.out wr hch
      obtain ⟨g, o, eo, hg, cc⟩ := hx2 k hkx
      simp only [Value.slice.injEq] at e1
      obtain ⟨rfl, _, rfl⟩ := e1
      subst eo
      have hl1 := HL.out wr z (inTurnTo x y k) x[k] hnb hCw (by omega)
      have sx : x[k]? = some x[k] := List.getElem?_eq_getElem hkx
      rw [sx] at HS
      generalize x[k] = a at *
      replace hl1 : Hid _ := hl1
      replace hch : Hid _ := hch
      clear hnb hx2
      by_cases hky : k < y.length
      · have sy : y[k]? = some y[k] := List.getElem?_eq_getElem hky
        rw [sy] at HS
        go_wp2_with fail
        refine Calls.mono hl1.out ?_
        rintro e w1 ⟨rfl, z1, hn1, hc1⟩
        have hch1 := hch.out.trans hc1
        obtain ⟨_, ⟨_, _, e2, _, _, hy2⟩⟩ := HX.out w1 hch1
        obtain ⟨g2, o2, eo2, hg2, cc2⟩ := hy2 k hky
        simp only [Value.slice.injEq] at e2
        obtain ⟨rfl, _, rfl⟩ := e2
        subst eo2
        have hl2 := HL.out w1 z1 _ y[k] hn1 (Nat.le_trans hC hch1.size) (by simp; omega)
        generalize y[k] = a2 at *
        replace hl2 : Hid _ := hl2
        replace hch1 : Hid _ := hch1
        clear hl1 hc1 hn1 hy2 hch cc
        go_wp2_with fail
        refine Calls.mono hl2.out ?_
        rintro e w2 ⟨rfl, z2, hn2, hc2⟩
        have hch2 := hch1.out.trans hc2
        clear hl2 hc2 hch1 cc2
        replace hch2 : Hid _ := hch2
        replace hn2 : Hid _ := hn2
        go_wp2
        go_roundw
        case rel => exact ⟨k + 1, z2, by omega, by go_num, by rw [HS.out]; have := hn2.out; rw [List.append_assoc] at this; exact this, hch2.out⟩
        case measure => simp [intOf]; omega
      · have sy : y[k]? = none := List.getElem?_eq_none (by omega)
        rw [sy] at HS
        go_wp2_with fail
        refine Calls.mono hl1.out ?_
        rintro e w1 ⟨rfl, z1, hn1, hc1⟩
        have hch1 := hch.out.trans hc1
        clear hl1 hc1 hch cc
        replace hch1 : Hid _ := hch1
        replace hn1 : Hid _ := hn1
        go_wp2
        go_roundw
        case rel => exact ⟨k + 1, z1, by omega, by go_num, by rw [HS.out]; exact hn1.out, hch1.out⟩
        case measure => simp [intOf]; omega
    · have sx : x[k]? = none := List.getElem?_eq_none (by omega)
      rw [sx] at HS
      by_cases hky : k < y.length
      · have sy : y[k]? = some y[k] := List.getElem?_eq_getElem hky
        rw [sy] at HS
        obtain ⟨_, ⟨_, _, e2, _, _, hy2⟩⟩ := HX.out wr hch
        obtain ⟨g2, o2, eo2, hg2, cc2⟩ := hy2 k hky
        simp only [Value.slice.injEq] at e2
        obtain ⟨rfl, _, rfl⟩ := e2
        subst eo2
        have hl2 := HL.out wr z _ y[k] hnb hCw (by omega)
        generalize y[k] = a2 at *
        replace hl2 : Hid _ := hl2
        replace hch : Hid _ := hch
        clear hnb hy2
        go_wp2_with fail
        refine Calls.mono hl2.out ?_
        rintro e w2 ⟨rfl, z2, hn2, hc2⟩
        have hch2 := hch.out.trans hc2
        clear hl2 hc2 hch cc2
        replace hch2 : Hid _ := hch2
        replace hn2 : Hid _ := hn2
        go_wp2
        go_roundw
        case rel => exact ⟨k + 1, z2, by omega, by go_num, by rw [HS.out]; exact hn2.out, hch2.out⟩
        case measure => simp [intOf]; omega
      · have ek : k = max x.length y.length := by omega
        have HE : Hid (inTurnTo x y k = inTurn x y) := by show _ = _; rw [ek]; rfl
        rw [HE.out] at hnb
        clear HS
        go_wp2_with fail
        go_end0
        exact ⟨rfl, z, hnb, hch⟩

end Go.Proofs.YtjnmpejcegmkhaaGreatDoor
