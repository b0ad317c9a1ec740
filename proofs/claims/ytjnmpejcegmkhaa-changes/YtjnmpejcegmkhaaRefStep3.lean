/- Contracts of package prismref's meeting, phase by phase: Taken, Grow, Shrink. No statement of the seat is proved here. -/
import Derived.Test.YtjnmpejcegmkhaaRefStep2
namespace Go.Proofs.Ytjnmpejcegmkhaa
open Go.RowKit

theorem ProcAt.slot {w : World} {B : Nat} {L : Lay} (h : RefRep w B L) {j qb : Nat} {q : Pr} (hq : ProcAt w L j qb q) : ∃ g cap, w.cell? ⟨L.tb, 8, none⟩ = some (.slice (some ⟨g, 0, none⟩) L.procs.length cap) ∧ L.procs.length ≤ cap ∧ L.procs.length ≤ maxLen ∧ cap ≤ maxLen ∧ w.cell? ⟨g, j, none⟩ = some (.pointer (some ⟨qb, 0, none⟩)) ∧ g < w.heap.size := by
  have k8 := h.pv_cell
  obtain ⟨ao, cap, e1, d1, d2, d3, hx⟩ := h.proc_at
  rw [e1] at k8
  obtain ⟨g, eg, cg⟩ := hx j hq.hi
  have eqb : (L.procs[j]'hq.hi).1 = qb := by
    have := hq.eb
    rw [List.getD_eq_getElem?_getD, List.getElem?_eq_getElem hq.hi] at this
    exact this
  rw [eqb] at cg
  subst eg
  exact ⟨g, cap, k8, d1, d2, d3, cg, cell_lt cg⟩

set_option maxHeartbeats 2000000 in
set_option maxRecDepth 100000 in
theorem meet_taken {w : World} {B : Nat} {L : Lay} (h : RefRep w B L) {i j pb qb : Nat} {p q : Pr} (hp : ProcAt w L i pb p) (hq : ProcAt w L j qb q) (hne : qb ≠ pb) (hph : p.phase = 7) (hm : p.met = (j : Int)) (hn0 : 0 ≤ p.node) (hn : p.node ≤ 1000000) (draw : Int) :
    Calls Try.prog 88 #[.pointer (some ⟨L.tb, 0, none⟩), .pointer (some ⟨pb, 0, none⟩), I i, I draw] w fun e w' => e = .returned (.tuple #[]) ∧ PutB w w' pb (prCells (settledPr { p with met := -1 } q 0)) 128 := by
  obtain ⟨f1, f2⟩ := nb_facts hp.blk
  have c3 := f1 3
  have c10 := f1 10
  simp only [prCells] at c3 c10
  simp at c3 c10
  rw [hph] at c3
  rw [hm] at c10
  obtain ⟨g, cap, k8, d1, d2, d3, cg, lg⟩ := hq.slot h
  have hjl : (j : Int) < (L.procs.length : Int) := by have := hq.hi; omega
  have hj0 : (0 : Int) ≤ (j : Int) := by omega
  have HS : Hid (∀ W, PutB w W pb (prCells p) 128 → Calls Try.prog 120 #[.pointer (some ⟨pb, 0, none⟩), .pointer (some ⟨qb, 0, none⟩), I 0] (W.setCell ⟨pb, 10, none⟩ (I (-1))) fun e w' => e = .returned (.tuple #[]) ∧ PutB w w' pb (prCells (settledPr { p with met := -1 } q 0)) 128) := by
    intro W hW
    have h1 : PutB w (W.setCell ⟨pb, 10, none⟩ (I (-1))) pb (prCells { p with met := -1 }) 128 := hW.set 10 (I (-1))
    refine (settled_c (p := { p with met := -1 }) (q := q) h1.blk (by rw [h1.other qb hne]; exact hq.blk) hn0 hn 0 (by omega) (by omega)).mono ?_
    rintro e w' ⟨he, hp'⟩
    exact ⟨he, h1.trans hp'⟩
  have HB : Hid (PutB w w pb (prCells p) 128) := PutB.refl hp.blk
  unfold maxLen at d2 d3
  clear h hp hq f1 hph hm hne
  generalize L.procs.length = pl at *
  go_enter Try.func88, Try.ntmps88
  go_wp2_with fail
  go_quiet (fail)
  go_wp2_with fail
  first
  | refine (HS.out _ (HB.out.drewN _)).mono ?_
  | (rw [← World.setCell_drewN]; refine (HS.out _ (HB.out.drewN _)).mono ?_)
  rintro e w2 ⟨rfl, hp2⟩
  go_wp2
  go_end0
  exact ⟨rfl, hp2⟩

/-- Between 1 and the configuration's width. -/
def clip (cw z : Int) : Int := if (if cw < z then cw else z) < 1 then 1 else (if cw < z then cw else z)

set_option maxHeartbeats 4000000 in
set_option maxRecDepth 100000 in
theorem meet_grow {w : World} {B : Nat} {L : Lay} (h : RefRep w B L) (hB : B ≤ w.heap.size) {i pb v : Nat} {p : Pr} (hp : ProcAt w L i pb p) (hph : p.phase = 9) (hv : p.node = (v : Int)) (hvl : v < L.past.length) (hll : (L.hist v).length ≤ 1000000000000) (draw : Int) (hw0 : 0 ≤ p.wide) (hw9 : p.wide ≤ 1000) :
    Calls Try.prog 88 #[.pointer (some ⟨L.tb, 0, none⟩), .pointer (some ⟨pb, 0, none⟩), I i, I draw] w fun e w' => e = .returned (.tuple #[]) ∧ ∃ x, RefRep w' B (Lay.setP { L with past := L.past.set v (x, (⟨5, clip L.c.width (2 * p.wide), 0, []⟩, .slice none 0 0) :: L.hist v) } i { p with phase := 11 }) ∧ ChgT B [136, 125, 128] w w' := by
  obtain ⟨f1, f2⟩ := nb_facts hp.blk
  have c3 := f1 3
  have c4 := f1 4
  have c6 := f1 6
  simp only [prCells] at c3 c4 c6
  simp at c3 c4 c6
  rw [hph] at c3
  rw [hv] at c4
  have k4 : w.cell? ⟨L.tb, 4, none⟩ = some (I L.c.width) := by rw [block_cell h.tree]; rfl
  have hh := happens_c h hB v hvl hll ⟨5, clip L.c.width (2 * p.wide), 0, []⟩ (.slice none 0 0) (World.ownsRow_nil _ _ _ _)
  have HF : Hid (∀ w1 x, RefRep w1 B { L with past := L.past.set v (x, (⟨5, clip L.c.width (2 * p.wide), 0, []⟩, .slice none 0 0) :: L.hist v) } → ChgT B [136, 125] w w1 →
      (w1.cell? ⟨pb, 3, none⟩ = some (I p.phase) ∧ w1.frozen? ⟨pb, 3, none⟩ = false) ∧ RefRep (w1.setCell ⟨pb, 3, none⟩ (I 11)) B (Lay.setP { L with past := L.past.set v (x, (⟨5, clip L.c.width (2 * p.wide), 0, []⟩, .slice none 0 0) :: L.hist v) } i { p with phase := 11 }) ∧ ChgT B [136, 125, 128] w (w1.setCell ⟨pb, 3, none⟩ (I 11))) := by
    intro w1 x hr1 hc1
    have hb1 := hc1.at hp.blk (by decide)
    obtain ⟨g1, g2⟩ := nb_facts hb1
    have hpa : ProcAt w1 { L with past := L.past.set v (x, (⟨5, clip L.c.width (2 * p.wide), 0, []⟩, .slice none 0 0) :: L.hist v) } i pb p := ⟨hp.hi, hb1, hp.eb, hp.ep⟩
    have hpu : PutB w1 (w1.setCell ⟨pb, 3, none⟩ (I 11)) pb (prCells { p with phase := 11 }) 128 := (PutB.refl hb1).set 3 (I 11)
    obtain ⟨a1, a2⟩ := hpa.put hr1 hpu
    exact ⟨⟨by rw [g1 3]; rfl, g2 3⟩, a1, (hc1.mono (Nat.le_refl _) (by simp)).trans (a2.mono (Nat.le_refl _) (by simp))⟩
  have HCL : Hid (∀ z, clip L.c.width z = if (if L.c.width < z then L.c.width else z) < 1 then 1 else (if L.c.width < z then L.c.width else z)) := fun z => rfl
  rw [hph] at HF
  generalize hcl : clip L.c.width (2 * p.wide) = cl at *
  have hcl2 := HCL.out (2 * p.wide)
  rw [hcl] at hcl2
  have HC2 : Hid (cl = if (if L.c.width < 2 * p.wide then L.c.width else 2 * p.wide) < 1 then 1 else (if L.c.width < 2 * p.wide then L.c.width else 2 * p.wide)) := hcl2
  clear hcl hcl2 HCL h hp f1 f2 hph hv
  generalize L.c.width = cw at *
  by_cases h1 : cw < 2 * p.wide
  · have hx : cl = if cw < 1 then 1 else cw := by rw [HC2.out, if_pos h1]
    by_cases h2 : cw < 1
    · rw [if_pos h2] at hx
      subst hx
      clear HC2
      go_enter Try.func88, Try.ntmps88
      go_wp2_with fail
      refine hh.mono ?_
      rintro e w1 ⟨rfl, ⟨x, hr1⟩, hc1⟩
      obtain ⟨⟨z1, z2⟩, z3⟩ := HF.out w1 x hr1 hc1
      replace z3 : Hid _ := z3
      clear hr1 hc1 HF hh
      go_wp2
      go_end0
      exact ⟨rfl, x, z3.out⟩
    · have hd2 : decide (cw < 1) = false := by simpa using h2
      rw [if_neg h2] at hx
      subst hx
      clear HC2
      go_enter Try.func88, Try.ntmps88
      go_wp2_with fail
      refine hh.mono ?_
      rintro e w1 ⟨rfl, ⟨x, hr1⟩, hc1⟩
      obtain ⟨⟨z1, z2⟩, z3⟩ := HF.out w1 x hr1 hc1
      replace z3 : Hid _ := z3
      clear hr1 hc1 HF hh
      go_wp2
      go_end0
      exact ⟨rfl, x, z3.out⟩
  · have hd1 : decide (cw < 2 * p.wide) = false := by simpa using h1
    have hx : cl = if 2 * p.wide < 1 then 1 else 2 * p.wide := by rw [HC2.out, if_neg h1]
    by_cases h2 : 2 * p.wide < 1
    · rw [if_pos h2] at hx
      subst hx
      clear HC2
      go_enter Try.func88, Try.ntmps88
      go_wp2_with fail
      refine hh.mono ?_
      rintro e w1 ⟨rfl, ⟨x, hr1⟩, hc1⟩
      obtain ⟨⟨z1, z2⟩, z3⟩ := HF.out w1 x hr1 hc1
      replace z3 : Hid _ := z3
      clear hr1 hc1 HF hh
      go_wp2
      go_end0
      exact ⟨rfl, x, z3.out⟩
    · have hd2 : decide (2 * p.wide < 1) = false := by simpa using h2
      rw [if_neg h2] at hx
      subst hx
      clear HC2
      go_enter Try.func88, Try.ntmps88
      go_wp2_with fail
      refine hh.mono ?_
      rintro e w1 ⟨rfl, ⟨x, hr1⟩, hc1⟩
      obtain ⟨⟨z1, z2⟩, z3⟩ := HF.out w1 x hr1 hc1
      replace z3 : Hid _ := z3
      clear hr1 hc1 HF hh
      go_wp2
      go_end0
      exact ⟨rfl, x, z3.out⟩

set_option maxHeartbeats 4000000 in
set_option maxRecDepth 100000 in
theorem meet_shrink {w : World} {B : Nat} {L : Lay} (h : RefRep w B L) (hB : B ≤ w.heap.size) {i pb v : Nat} {p : Pr} (hp : ProcAt w L i pb p) (hph : p.phase = 10) (hv : p.node = (v : Int)) (hvl : v < L.past.length) (hll : (L.hist v).length ≤ 1000000000000) (draw : Int) (hw0 : 0 ≤ p.wide) (hw9 : p.wide ≤ 1000) :
    Calls Try.prog 88 #[.pointer (some ⟨L.tb, 0, none⟩), .pointer (some ⟨pb, 0, none⟩), I i, I draw] w fun e w' => e = .returned (.tuple #[]) ∧ ∃ x, RefRep w' B (Lay.setP { L with past := L.past.set v (x, (⟨5, clip L.c.width (p.wide / 2), 0, []⟩, .slice none 0 0) :: L.hist v) } i { p with phase := 11 }) ∧ ChgT B [136, 125, 128] w w' := by
  obtain ⟨f1, f2⟩ := nb_facts hp.blk
  have c3 := f1 3
  have c4 := f1 4
  have c6 := f1 6
  simp only [prCells] at c3 c4 c6
  simp at c3 c4 c6
  rw [hph] at c3
  rw [hv] at c4
  have k4 : w.cell? ⟨L.tb, 4, none⟩ = some (I L.c.width) := by rw [block_cell h.tree]; rfl
  have hh := happens_c h hB v hvl hll ⟨5, clip L.c.width (p.wide / 2), 0, []⟩ (.slice none 0 0) (World.ownsRow_nil _ _ _ _)
  have HF : Hid (∀ w1 x, RefRep w1 B { L with past := L.past.set v (x, (⟨5, clip L.c.width (p.wide / 2), 0, []⟩, .slice none 0 0) :: L.hist v) } → ChgT B [136, 125] w w1 →
      (w1.cell? ⟨pb, 3, none⟩ = some (I p.phase) ∧ w1.frozen? ⟨pb, 3, none⟩ = false) ∧ RefRep (w1.setCell ⟨pb, 3, none⟩ (I 11)) B (Lay.setP { L with past := L.past.set v (x, (⟨5, clip L.c.width (p.wide / 2), 0, []⟩, .slice none 0 0) :: L.hist v) } i { p with phase := 11 }) ∧ ChgT B [136, 125, 128] w (w1.setCell ⟨pb, 3, none⟩ (I 11))) := by
    intro w1 x hr1 hc1
    have hb1 := hc1.at hp.blk (by decide)
    obtain ⟨g1, g2⟩ := nb_facts hb1
    have hpa : ProcAt w1 { L with past := L.past.set v (x, (⟨5, clip L.c.width (p.wide / 2), 0, []⟩, .slice none 0 0) :: L.hist v) } i pb p := ⟨hp.hi, hb1, hp.eb, hp.ep⟩
    have hpu : PutB w1 (w1.setCell ⟨pb, 3, none⟩ (I 11)) pb (prCells { p with phase := 11 }) 128 := (PutB.refl hb1).set 3 (I 11)
    obtain ⟨a1, a2⟩ := hpa.put hr1 hpu
    exact ⟨⟨by rw [g1 3]; rfl, g2 3⟩, a1, (hc1.mono (Nat.le_refl _) (by simp)).trans (a2.mono (Nat.le_refl _) (by simp))⟩
  have HCL : Hid (∀ z, clip L.c.width z = if (if L.c.width < z then L.c.width else z) < 1 then 1 else (if L.c.width < z then L.c.width else z)) := fun z => rfl
  rw [hph] at HF
  generalize hcl : clip L.c.width (p.wide / 2) = cl at *
  have hcl2 := HCL.out (p.wide / 2)
  rw [hcl] at hcl2
  have HC2 : Hid (cl = if (if L.c.width < p.wide / 2 then L.c.width else p.wide / 2) < 1 then 1 else (if L.c.width < p.wide / 2 then L.c.width else p.wide / 2)) := hcl2
  clear hcl hcl2 HCL h hp f1 f2 hph hv
  generalize L.c.width = cw at *
  by_cases h1 : cw < p.wide / 2
  · have hx : cl = if cw < 1 then 1 else cw := by rw [HC2.out, if_pos h1]
    by_cases h2 : cw < 1
    · rw [if_pos h2] at hx
      subst hx
      clear HC2
      go_enter Try.func88, Try.ntmps88
      go_wp2_with fail
      refine hh.mono ?_
      rintro e w1 ⟨rfl, ⟨x, hr1⟩, hc1⟩
      obtain ⟨⟨z1, z2⟩, z3⟩ := HF.out w1 x hr1 hc1
      replace z3 : Hid _ := z3
      clear hr1 hc1 HF hh
      go_wp2
      go_end0
      exact ⟨rfl, x, z3.out⟩
    · have hd2 : decide (cw < 1) = false := by simpa using h2
      rw [if_neg h2] at hx
      subst hx
      clear HC2
      go_enter Try.func88, Try.ntmps88
      go_wp2_with fail
      refine hh.mono ?_
      rintro e w1 ⟨rfl, ⟨x, hr1⟩, hc1⟩
      obtain ⟨⟨z1, z2⟩, z3⟩ := HF.out w1 x hr1 hc1
      replace z3 : Hid _ := z3
      clear hr1 hc1 HF hh
      go_wp2
      go_end0
      exact ⟨rfl, x, z3.out⟩
  · have hd1 : decide (cw < p.wide / 2) = false := by simpa using h1
    have hx : cl = if p.wide / 2 < 1 then 1 else p.wide / 2 := by rw [HC2.out, if_neg h1]
    by_cases h2 : p.wide / 2 < 1
    · rw [if_pos h2] at hx
      subst hx
      clear HC2
      go_enter Try.func88, Try.ntmps88
      go_wp2_with fail
      refine hh.mono ?_
      rintro e w1 ⟨rfl, ⟨x, hr1⟩, hc1⟩
      obtain ⟨⟨z1, z2⟩, z3⟩ := HF.out w1 x hr1 hc1
      replace z3 : Hid _ := z3
      clear hr1 hc1 HF hh
      go_wp2
      go_end0
      exact ⟨rfl, x, z3.out⟩
    · have hd2 : decide (p.wide / 2 < 1) = false := by simpa using h2
      rw [if_neg h2] at hx
      subst hx
      clear HC2
      go_enter Try.func88, Try.ntmps88
      go_wp2_with fail
      refine hh.mono ?_
      rintro e w1 ⟨rfl, ⟨x, hr1⟩, hc1⟩
      obtain ⟨⟨z1, z2⟩, z3⟩ := HF.out w1 x hr1 hc1
      replace z3 : Hid _ := z3
      clear hr1 hc1 HF hh
      go_wp2
      go_end0
      exact ⟨rfl, x, z3.out⟩

end Go.Proofs.Ytjnmpejcegmkhaa
