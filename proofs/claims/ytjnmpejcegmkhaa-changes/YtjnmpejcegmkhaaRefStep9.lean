/- Contracts of package prismref's Step: its errors, and by phase. No statement of the seat is proved here. -/
import Derived.Test.YtjnmpejcegmkhaaRefStep8
namespace Go.Proofs.Ytjnmpejcegmkhaa
open Go.RowKit

/-- One step more is counted. -/
abbrev incPr (p : Pr) : Pr := { p with steps := wrap64 (p.steps + 1) }

theorem RefRep.pv_at {w : World} {B : Nat} {L : Lay} (h : RefRep w B L) : ∃ ao cap, w.cell? ⟨L.tb, 8, none⟩ = some (.slice ao L.procs.length cap) ∧ L.procs.length ≤ cap ∧ L.procs.length ≤ maxLen ∧ cap ≤ maxLen := by
  have h1 := h.pv_cell
  obtain ⟨ao, cap, e1, c1, c2, c3, _⟩ := h.proc_at
  rw [e1] at h1
  exact ⟨ao, cap, h1, c1, c2, c3⟩

set_option maxHeartbeats 2000000 in
theorem rStep_none {w : World} {B : Nat} {L : Lay} (h : RefRep w B L) (n : Int) (hn : n < 0 ∨ (L.procs.length : Int) ≤ n) (draw : Int) :
    Calls Try.prog 58 #[.pointer (some ⟨L.tb, 0, none⟩), I n, I draw] w fun e w' => e = .returned (.tuple #[I 0, I 5]) ∧ Below w.heap.size w w' := by
  obtain ⟨ao, cap, p1, q1, q2, q3⟩ := h.pv_at
  unfold maxLen at q2 q3
  clear h
  generalize L.procs.length = np at *
  by_cases h0 : n < 0
  · clear hn
    go_enter Try.func58, Try.ntmps58
    go_wp2
    go_ret2
    exact ⟨rfl, Below.refl _ _⟩
  · have hd : decide (n < 0) = false := by simp; omega
    have hge : (np : Int) ≤ n := by omega
    clear hn
    go_enter Try.func58, Try.ntmps58
    go_wp2
    go_ret2
    exact ⟨rfl, Below.refl _ _⟩

set_option maxHeartbeats 2000000 in
theorem rStep_done {w : World} {B : Nat} {L : Lay} (h : RefRep w B L) {i pb : Nat} {p : Pr} (hp : ProcAt w L i pb p) (hph : p.phase = 20) (draw : Int) :
    Calls Try.prog 58 #[.pointer (some ⟨L.tb, 0, none⟩), I i, I draw] w fun e w' => e = .returned (.tuple #[I 0, I 5]) ∧ Below w.heap.size w w' := by
  obtain ⟨g, cap, k8, d1, d2, d3, cg, lg⟩ := hp.slot h
  obtain ⟨f1, f2⟩ := nb_facts hp.blk
  have c3 := f1 3
  simp only [prCells] at c3
  simp at c3
  rw [hph] at c3
  unfold maxLen at d2 d3
  have hi : (i : Int) < (L.procs.length : Int) := by have := hp.hi; omega
  have hi0 : decide ((i : Int) < 0) = false := by simp
  generalize L.procs.length = np at *
  clear h hp hph f1
  go_enter Try.func58, Try.ntmps58
  go_wp2
  go_ret2
  exact ⟨rfl, Below.refl _ _⟩

set_option maxHeartbeats 4000000 in
theorem rStep_enter {w : World} {B : Nat} {L : Lay} (h : RefRep w B L) {i pb : Nat} {p : Pr} (hp : ProcAt w L i pb p) (hph : p.phase = 0) (draw : Int) :
    Calls Try.prog 58 #[.pointer (some ⟨L.tb, 0, none⟩), I i, I draw] w fun e w' => e = .returned (.tuple #[I 1, I 0]) ∧ RefRep w' B (L.setP i { incPr p with phase := 1 }) ∧ ChgT B [128] w w' := by
  obtain ⟨g, cap, k8, d1, d2, d3, cg, lg⟩ := hp.slot h
  obtain ⟨f1, f2⟩ := nb_facts hp.blk
  have c3 := f1 3
  have c12 := f1 12
  simp only [prCells] at c3 c12
  simp at c3 c12
  rw [hph] at c3
  unfold maxLen at d2 d3
  have hi : (i : Int) < (L.procs.length : Int) := by have := hp.hi; omega
  have hi0 : decide ((i : Int) < 0) = false := by simp
  have HE := hp.wrote (p' := { incPr p with phase := 1 }) h (Below.refl _ _) (((PutB.refl hp.blk).set 12 (I (wrap64 (p.steps + 1)))).set 3 (I 1))
  replace HE : Hid _ := HE
  generalize L.procs.length = np at *
  clear h hp hph f1
  go_enter Try.func58, Try.ntmps58
  go_wp2
  go_ret2
  exact ⟨rfl, HE.out⟩

set_option maxHeartbeats 4000000 in
theorem rStep_back {w : World} {B : Nat} {L : Lay} (h : RefRep w B L) {i pb : Nat} {p : Pr} (hp : ProcAt w L i pb p) (hph : p.phase = 2) (draw : Int) :
    Calls Try.prog 58 #[.pointer (some ⟨L.tb, 0, none⟩), I i, I draw] w fun e w' => e = .returned (.tuple #[I 0, I 0]) ∧ RefRep w' B (L.setP i { incPr p with phase := 0 }) ∧ ChgT B [128] w w' := by
  obtain ⟨g, cap, k8, d1, d2, d3, cg, lg⟩ := hp.slot h
  obtain ⟨f1, f2⟩ := nb_facts hp.blk
  have c3 := f1 3
  have c12 := f1 12
  simp only [prCells] at c3 c12
  simp at c3 c12
  unfold maxLen at d2 d3
  have hi : (i : Int) < (L.procs.length : Int) := by have := hp.hi; omega
  have hi0 : decide ((i : Int) < 0) = false := by simp
  rw [hph] at c3
  have HE := hp.wrote (p' := { incPr p with phase := 0 }) h (Below.refl _ _) (((PutB.refl hp.blk).set 12 (I (wrap64 (p.steps + 1)))).set 3 (I 0))
  replace HE : Hid _ := HE
  generalize L.procs.length = np at *
  clear h hp hph f1
  go_enter Try.func58, Try.ntmps58
  go_wp2
  go_ret2
  exact ⟨rfl, HE.out⟩

/-- Behind the count of one step more. -/
theorem ProcAt.inc {w : World} {B : Nat} {L : Lay} (h : RefRep w B L) {i pb : Nat} {p : Pr} (hp : ProcAt w L i pb p) :
    RefRep (w.setCell ⟨pb, 12, none⟩ (I (wrap64 (p.steps + 1)))) B (L.setP i (incPr p)) ∧ ProcAt (w.setCell ⟨pb, 12, none⟩ (I (wrap64 (p.steps + 1)))) (L.setP i (incPr p)) i pb (incPr p) ∧ ChgT B [128] w (w.setCell ⟨pb, 12, none⟩ (I (wrap64 (p.steps + 1)))) := by
  have hw : PutB w (w.setCell ⟨pb, 12, none⟩ (I (wrap64 (p.steps + 1)))) pb (prCells (incPr p)) 128 := (PutB.refl hp.blk).set 12 (I (wrap64 (p.steps + 1)))
  obtain ⟨a, b⟩ := hp.put h hw
  exact ⟨a, hp.setP_self hw, b⟩

set_option maxHeartbeats 8000000 in
theorem rStep_look {w : World} {B : Nat} {L : Lay} (h : RefRep w B L) {i pb : Nat} {p : Pr} (hp : ProcAt w L i pb p) (hph : p.phase = 1) (draw : Int) {R : Int → World → Prop}
    (hc : Calls Try.prog 82 #[.pointer (some ⟨L.tb, 0, none⟩), .pointer (some ⟨pb, 0, none⟩)] (w.setCell ⟨pb, 12, none⟩ (I (wrap64 (p.steps + 1)))) fun e w' => e = .returned (.tuple #[]) ∧ ∃ ph, w'.cell? ⟨pb, 3, none⟩ = some (I ph) ∧ R ph w') :
    Calls Try.prog 58 #[.pointer (some ⟨L.tb, 0, none⟩), I i, I draw] w fun e w' => ∃ ph, e = .returned (.tuple #[I ph, I 0]) ∧ R ph w' := by
  obtain ⟨g, cap, k8, d1, d2, d3, cg, lg⟩ := hp.slot h
  obtain ⟨f1, f2⟩ := nb_facts hp.blk
  have c3 := f1 3
  have c12 := f1 12
  simp only [prCells] at c3 c12
  simp at c3 c12
  unfold maxLen at d2 d3
  have hi : (i : Int) < (L.procs.length : Int) := by have := hp.hi; omega
  have hi0 : decide ((i : Int) < 0) = false := by simp
  replace hc : Hid _ := hc
  generalize L.procs.length = np at *
  clear h hp f1
  rw [hph] at c3
  clear hph
  go_enter Try.func58, Try.ntmps58
  go_wp2_with fail
  refine Calls.mono hc.out ?_
  rintro e w1 ⟨rfl, ph, hf, hR⟩
  replace hR : Hid _ := hR
  clear hc c3 c12 k8 cg f2
  go_wp2
  go_ret2
  exact ⟨ph, rfl, hR.out⟩

set_option maxHeartbeats 8000000 in
theorem rStep_up {w : World} {B : Nat} {L : Lay} (h : RefRep w B L) {i pb : Nat} {p : Pr} (hp : ProcAt w L i pb p) (hph : p.phase = 19) (draw : Int) {R : Int → World → Prop}
    (hc : Calls Try.prog 85 #[.pointer (some ⟨pb, 0, none⟩)] (w.setCell ⟨pb, 12, none⟩ (I (wrap64 (p.steps + 1)))) fun e w' => e = .returned (.tuple #[]) ∧ ∃ ph, w'.cell? ⟨pb, 3, none⟩ = some (I ph) ∧ R ph w') :
    Calls Try.prog 58 #[.pointer (some ⟨L.tb, 0, none⟩), I i, I draw] w fun e w' => ∃ ph, e = .returned (.tuple #[I ph, I 0]) ∧ R ph w' := by
  obtain ⟨g, cap, k8, d1, d2, d3, cg, lg⟩ := hp.slot h
  obtain ⟨f1, f2⟩ := nb_facts hp.blk
  have c3 := f1 3
  have c12 := f1 12
  simp only [prCells] at c3 c12
  simp at c3 c12
  unfold maxLen at d2 d3
  have hi : (i : Int) < (L.procs.length : Int) := by have := hp.hi; omega
  have hi0 : decide ((i : Int) < 0) = false := by simp
  replace hc : Hid _ := hc
  generalize L.procs.length = np at *
  clear h hp f1
  rw [hph] at c3
  clear hph
  go_enter Try.func58, Try.ntmps58
  go_wp2_with fail
  refine Calls.mono hc.out ?_
  rintro e w1 ⟨rfl, ph, hf, hR⟩
  replace hR : Hid _ := hR
  clear hc c3 c12 k8 cg f2
  go_wp2
  go_ret2
  exact ⟨ph, rfl, hR.out⟩

set_option maxHeartbeats 8000000 in
theorem rStep_leaf {w : World} {B : Nat} {L : Lay} (h : RefRep w B L) {i pb : Nat} {p : Pr} (hp : ProcAt w L i pb p) (hph : p.phase = 12 ∨ p.phase = 13 ∨ p.phase = 14) (draw : Int) {R : Int → World → Prop}
    (hc : Calls Try.prog 86 #[.pointer (some ⟨L.tb, 0, none⟩), .pointer (some ⟨pb, 0, none⟩)] (w.setCell ⟨pb, 12, none⟩ (I (wrap64 (p.steps + 1)))) fun e w' => e = .returned (.tuple #[]) ∧ ∃ ph, w'.cell? ⟨pb, 3, none⟩ = some (I ph) ∧ R ph w') :
    Calls Try.prog 58 #[.pointer (some ⟨L.tb, 0, none⟩), I i, I draw] w fun e w' => ∃ ph, e = .returned (.tuple #[I ph, I 0]) ∧ R ph w' := by
  obtain ⟨g, cap, k8, d1, d2, d3, cg, lg⟩ := hp.slot h
  obtain ⟨f1, f2⟩ := nb_facts hp.blk
  have c3 := f1 3
  have c12 := f1 12
  simp only [prCells] at c3 c12
  simp at c3 c12
  unfold maxLen at d2 d3
  have hi : (i : Int) < (L.procs.length : Int) := by have := hp.hi; omega
  have hi0 : decide ((i : Int) < 0) = false := by simp
  replace hc : Hid _ := hc
  generalize L.procs.length = np at *
  clear h hp f1
  rcases hph with hph | hph | hph
  all_goals
    rw [hph] at c3
    clear hph
    go_enter Try.func58, Try.ntmps58
    go_wp2_with fail
    refine Calls.mono hc.out ?_
    rintro e w1 ⟨rfl, ph, hf, hR⟩
    replace hR : Hid _ := hR
    clear hc c3 c12 k8 cg f2
    go_wp2
    go_ret2
    exact ⟨ph, rfl, hR.out⟩

set_option maxHeartbeats 8000000 in
theorem rStep_meeting {w : World} {B : Nat} {L : Lay} (h : RefRep w B L) {i pb : Nat} {p : Pr} (hp : ProcAt w L i pb p) (hph : p.phase = 3 ∨ p.phase = 4 ∨ p.phase = 5 ∨ p.phase = 6 ∨ p.phase = 7 ∨ p.phase = 8 ∨ p.phase = 9 ∨ p.phase = 10) (draw : Int) {R : Int → World → Prop}
    (hc : Calls Try.prog 88 #[.pointer (some ⟨L.tb, 0, none⟩), .pointer (some ⟨pb, 0, none⟩), I i, I draw] (w.setCell ⟨pb, 12, none⟩ (I (wrap64 (p.steps + 1)))) fun e w' => e = .returned (.tuple #[]) ∧ ∃ ph, w'.cell? ⟨pb, 3, none⟩ = some (I ph) ∧ R ph w') :
    Calls Try.prog 58 #[.pointer (some ⟨L.tb, 0, none⟩), I i, I draw] w fun e w' => ∃ ph, e = .returned (.tuple #[I ph, I 0]) ∧ R ph w' := by
  obtain ⟨g, cap, k8, d1, d2, d3, cg, lg⟩ := hp.slot h
  obtain ⟨f1, f2⟩ := nb_facts hp.blk
  have c3 := f1 3
  have c12 := f1 12
  simp only [prCells] at c3 c12
  simp at c3 c12
  unfold maxLen at d2 d3
  have hi : (i : Int) < (L.procs.length : Int) := by have := hp.hi; omega
  have hi0 : decide ((i : Int) < 0) = false := by simp
  replace hc : Hid _ := hc
  generalize L.procs.length = np at *
  clear h hp f1
  rcases hph with hph | hph | hph | hph | hph | hph | hph | hph
  all_goals
    rw [hph] at c3
    clear hph
    go_enter Try.func58, Try.ntmps58
    go_wp2_with fail
    refine Calls.mono hc.out ?_
    rintro e w1 ⟨rfl, ph, hf, hR⟩
    replace hR : Hid _ := hR
    clear hc c3 c12 k8 cg f2
    go_wp2
    go_ret2
    exact ⟨ph, rfl, hR.out⟩

def togH (l : Hist) : Int := ((fromH l).1.n + manyH 4 (-1) l) % 2

set_option maxHeartbeats 8000000 in
theorem rStep_toggle {w : World} {B : Nat} {L : Lay} (h : RefRep w B L) (hB : B ≤ w.heap.size) {i pb v : Nat} {p : Pr} (hp : ProcAt w L i pb p) (hph : p.phase = 11) (hv : p.node = (v : Int)) (hv9 : v ≤ 1000) (hvl : v < L.past.length) (hll : (L.hist v).length ≤ 1000000000000) (h0 : 0 ≤ (fromH (L.hist v)).1.n) (h9 : (fromH (L.hist v)).1.n ≤ 1000000000000000000) (hkk : manyH 4 (-1) (L.hist v) ≤ 1000000000000000000) (draw : Int) :
    Calls Try.prog 58 #[.pointer (some ⟨L.tb, 0, none⟩), I i, I draw] w fun e w' => e = .returned (.tuple #[I 0, I 0]) ∧ ∃ x, RefRep w' B ((L.hap v x ⟨4, 0, 0, []⟩ (.slice none 0 0)).setP i { incPr p with node := 2 * p.node + (if p.kind = 2 then (togH (L.hist v) + 1) % 2 else togH (L.hist v)), phase := 0 }) ∧ ChgT B [136, 125, 128] w w' := by
  obtain ⟨h1, hp1, hc1⟩ := hp.inc h
  obtain ⟨g, cap, k8, d1, d2, d3, cg, lg⟩ := hp.slot h
  obtain ⟨f1, f2⟩ := nb_facts hp.blk
  have c3 := f1 3
  have c12 := f1 12
  simp only [prCells] at c3 c12
  simp at c3 c12
  unfold maxLen at d2 d3
  have hi : (i : Int) < (L.procs.length : Int) := by have := hp.hi; omega
  have hi0 : decide ((i : Int) < 0) = false := by simp
  have c0 := f1 0
  have c4 := f1 4
  simp only [prCells] at c0 c4
  simp at c0 c4
  rw [hph] at c3
  rw [hv] at c4
  have htg := toggle_c h1 v hvl h0 h9 hkk
  have et : ((fromH ((L.setP i (incPr p)).hist v)).1.n + manyH 4 (-1) ((L.setP i (incPr p)).hist v)) % 2 = togH (L.hist v) := rfl
  rw [et] at htg
  have ht01 : togH (L.hist v) = 0 ∨ togH (L.hist v) = 1 := by unfold togH; omega
  generalize togH (L.hist v) = tg at *
  have HH : Hid (∀ W, Below (w.setCell ⟨pb, 12, none⟩ (I (wrap64 (p.steps + 1)))).heap.size (w.setCell ⟨pb, 12, none⟩ (I (wrap64 (p.steps + 1)))) W → Calls Try.prog 79 #[.pointer (some ⟨L.tb, 0, none⟩), I v, .agg #[I 4, I 0, I 0, .slice none 0 0]] W fun e w3 => e = .returned (.tuple #[]) ∧ (w3.cell? ⟨pb, 0, none⟩ = some (I p.kind)) ∧ ∀ b : Int, 0 ≤ b → b ≤ 1 → Calls Try.prog 84 #[.pointer (some ⟨pb, 0, none⟩), I b] w3 fun e w' => e = .returned (.tuple #[]) ∧ w'.cell? ⟨pb, 3, none⟩ = some (I 0) ∧ ∃ x, RefRep w' B ((L.hap v x ⟨4, 0, 0, []⟩ (.slice none 0 0)).setP i { incPr p with node := 2 * p.node + b, phase := 0 }) ∧ ChgT B [136, 125, 128] w w') := by
    intro W hW
    have hs : B ≤ W.heap.size := by have := hW.size; simp [World.setCell] at this; omega
    refine (happens_c (h1.below hW) hs v hvl hll ⟨4, 0, 0, []⟩ (.slice none 0 0) (World.ownsRow_nil _ _ _ _)).mono ?_
    rintro e w3 ⟨e0, ⟨x, r3⟩, k3⟩
    have hb3 := k3.at (hp1.below hW).blk (by decide)
    refine ⟨e0, by rw [(nb_facts hb3).1 0]; rfl, fun b hb0 hb1 => ?_⟩
    refine (child_c hb3 (by show 0 ≤ p.node; omega) (by show p.node ≤ _; omega) b hb0 hb1).mono ?_
    rintro e w' ⟨e1, hpu⟩
    have hp3 : ProcAt w3 { L.setP i (incPr p) with past := L.past.set v (x, (⟨4, 0, 0, []⟩, .slice none 0 0) :: L.hist v) } i pb (incPr p) := ⟨hp1.hi, hb3, hp1.eb, hp1.ep⟩
    obtain ⟨r4, k4⟩ := hp3.put r3 hpu
    refine ⟨e1, by rw [(nb_facts hpu.blk).1 3]; rfl, x, ?_, ?_⟩
    · have e2 := Lay.setP_self (L := L.hap v x ⟨4, 0, 0, []⟩ (.slice none 0 0)) (i := i) hp.hi (incPr p) { incPr p with node := 2 * p.node + b, phase := 0 }
      rw [← e2]
      exact r4
    · exact (((hc1.mono (Nat.le_refl _) (by simp)).trans (ChgT.of_below hW)).trans (k3.mono (Nat.le_refl _) (by simp))).trans (k4.mono (Nat.le_refl _) (by simp))
  have HF : Hid (∀ W, Below (w.setCell ⟨pb, 12, none⟩ (I (wrap64 (p.steps + 1)))).heap.size (w.setCell ⟨pb, 12, none⟩ (I (wrap64 (p.steps + 1)))) W → W.cell? ⟨pb, 4, none⟩ = some (I v)) := by
    intro W hW
    rw [← hv]
    rw [(nb_facts (hp1.below hW).blk).1 4]; rfl
  generalize L.procs.length = np at *
  replace htg : Hid _ := htg
  clear h hp h1 hp1 hc1 f1 hph hv h0 h9 hkk
  by_cases hk : p.kind = 2
  · rw [if_pos hk]
    rw [hk] at c0 HH
    clear hk
    rcases ht01 with rfl | rfl
    all_goals
      go_enter Try.func58, Try.ntmps58
      go_wp2_with fail
      refine Calls.mono htg.out ?_
      rintro e w1 ⟨rfl, hb⟩
      have k4 := HF.out w1 hb
      have hh := HH.out w1 hb
      replace hh : Hid _ := hh
      clear HF HH htg c0 c3 c4 c12 k8 cg f2 hb
      go_wp2_with fail
      refine Calls.mono hh.out ?_
      rintro e w2 ⟨rfl, hk0, hch⟩
      replace hch : Hid _ := hch
      clear hh k4
      go_wp2_with fail
      refine Calls.mono (hch.out _ (by omega) (by omega)) ?_
      rintro e w3 ⟨rfl, hk3, hfin⟩
      replace hfin : Hid _ := hfin
      clear hch
      go_wp2
      go_ret2
      exact ⟨rfl, hfin.out⟩
  · rw [if_neg hk]
    have b1 : (p.kind == 2) = false := by simp [hk]
    clear hk
    go_enter Try.func58, Try.ntmps58
    go_wp2_with fail
    refine Calls.mono htg.out ?_
    rintro e w1 ⟨rfl, hb⟩
    have k4 := HF.out w1 hb
    have hh := HH.out w1 hb
    replace hh : Hid _ := hh
    clear HF HH htg c0 c3 c4 c12 k8 cg f2 hb
    go_wp2_with fail
    refine Calls.mono hh.out ?_
    rintro e w2 ⟨rfl, hk0, hch⟩
    have hch2 := hch tg (by omega) (by omega)
    replace hch2 : Hid _ := hch2
    clear hh k4 hch
    go_wp2_with fail
    refine Calls.mono hch2.out ?_
    rintro e w3 ⟨rfl, hk3, hfin⟩
    replace hfin : Hid _ := hfin
    clear hch2
    go_wp2
    go_ret2
    exact ⟨rfl, hfin.out⟩

end Go.Proofs.Ytjnmpejcegmkhaa
