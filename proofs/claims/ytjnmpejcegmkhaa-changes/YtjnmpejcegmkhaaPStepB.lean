/- Contracts of the program's claim, meet and stepAtSlot. Contracts of the program's stepAtSlot, phase by phase. No statement of the seat is proved here. -/
import Derived.Test.YtjnmpejcegmkhaaPStepA
namespace Go.Proofs.Ytjnmpejcegmkhaa
open Go.RowKit

section
variable {w : World} {B : Nat} {L : PLay} {v i g : Nat} {W : World} {n : PN} {q : PP}

theorem PF.conf (h : PF w B L v i g W n q) (j : Nat) (hj : j < 8) : W.cell? ⟨L.tb, j, none⟩ = (pConf L.c)[j]? := h.rep.ccell j hj

def claimPN (n : PN) (k i : Nat) : PN := if (n.slot k).st = 0 then n.setSlot k ⟨1, i, 0⟩ else n
def claimPP (c : Conf) (s : SL) (q : PP) : PP := if s.st = 0 then { q with pat := c.spin, phase := 6 } else { q with phase := 9 }

set_option maxHeartbeats 2000000 in
theorem claim_c (h : PF w B L v i g W n q) {k : Nat} (hk : k < 4) :
    Calls Try.prog 125 #[.pointer (some ⟨L.tb, 0, none⟩), I i, .pointer (some ⟨L.tb, 8 + v * 21 + 6 + k * 3, none⟩)] W fun e w' => e = .returned (.tuple #[]) ∧ PF w B L v i g w' (claimPN n k i) (claimPP L.c (n.slot k) q) := by
  have s0 := h.scell hk 0 (by omega)
  have s1 := h.scell hk 1 (by omega)
  have s2 := h.scell hk 2 (by omega)
  have c3 := h.pcell 3 (by omega)
  have c9 := h.pcell 9 (by omega)
  have k5 := h.conf 5 (by omega)
  obtain ⟨cap, p1, p2, p3, p4⟩ := h.pv
  have hi : (i : Int) < (L.procs.length : Int) := by have := h.hi; omega
  have fz := h.fzQ
  have fn := h.fzN
  have hne := h.ne
  unfold maxLen at p3 p4
  simp only [ppCells, slCells, pConf, List.getElem?_cons_succ, List.getElem?_cons_zero, Nat.add_zero] at s0 s1 s2 c3 c9 k5
  generalize L.procs.length = np at *
  by_cases h0 : (n.slot k).st = 0
  · have HE : Hid (PF w B L v i g (((((W.setCell ⟨L.tb, 8 + v * 21 + 6 + k * 3, none⟩ (I 1)).setCell ⟨L.tb, 8 + v * 21 + 6 + k * 3 + 1, none⟩ (I i)).setCell ⟨L.tb, 8 + v * 21 + 6 + k * 3 + 2, none⟩ (I 0)).setCell ⟨g, i * 11 + 9, none⟩ (I L.c.spin)).setCell ⟨g, i * 11 + 3, none⟩ (I 6)) (claimPN n k i) (claimPP L.c (n.slot k) q)) := by
      unfold claimPN
      rw [if_pos h0]
      exact ((h.setS3 hk ⟨1, i, 0⟩).setQ 9 (by omega) (I L.c.spin) { q with pat := L.c.spin } rfl).setQ 3 (by omega) (I 6) _ (by unfold claimPP; rw [if_pos h0]; rfl)
    rw [h0] at s0
    clear h h0
    go_enter Try.func125, Try.ntmps125
    go_wp2
    go_end0
    exact ⟨rfl, HE.out⟩
  · have b0 : ((n.slot k).st != 0) = true := by simp [h0]
    have HE : Hid (PF w B L v i g (W.setCell ⟨g, i * 11 + 3, none⟩ (I 9)) (claimPN n k i) (claimPP L.c (n.slot k) q)) := by
      unfold claimPN
      rw [if_neg h0]
      exact h.setQ 3 (by omega) (I 9) _ (by unfold claimPP; rw [if_neg h0]; rfl)
    clear h h0
    go_enter Try.func125, Try.ntmps125
    go_wp2
    exact bodyPost_ret (v := .tuple #[]) (by simp [results, Try.results125, go_sem]) rfl ⟨rfl, HE.out⟩

def meetsP (s : SL) (q : PP) : Prop := s.st = 1 ∧ s.wh = q.mind

set_option maxHeartbeats 2000000 in
theorem pmeet_no (h : PF w B L v i g W n q) {k : Nat} (hk : k < 4) (hm : ¬ meetsP (n.slot k) q) :
    Calls Try.prog 128 #[.pointer (some ⟨L.tb, 0, none⟩), I i, .pointer (some ⟨L.tb, 8 + v * 21 + 6 + k * 3, none⟩)] W fun e w' => e = .returned (.tuple #[]) ∧ PF w B L v i g w' n { q with phase := 9 } := by
  have s0 := h.scell hk 0 (by omega)
  have s1 := h.scell hk 1 (by omega)
  have c3 := h.pcell 3 (by omega)
  have c8 := h.pcell 8 (by omega)
  obtain ⟨cap, p1, p2, p3, p4⟩ := h.pv
  have hi : (i : Int) < (L.procs.length : Int) := by have := h.hi; omega
  have fz := h.fzQ
  have hne := h.ne
  unfold maxLen at p3 p4
  simp only [ppCells, slCells, List.getElem?_cons_succ, List.getElem?_cons_zero, Nat.add_zero] at s0 s1 c3 c8
  generalize L.procs.length = np at *
  have HE : Hid (PF w B L v i g (W.setCell ⟨g, i * 11 + 3, none⟩ (I 9)) n { q with phase := 9 }) := h.setQ 3 (by omega) (I 9) _ rfl
  unfold meetsP at hm
  by_cases h0 : (n.slot k).st = 1
  · have b1 : ((n.slot k).wh != q.mind) = true := by simp; intro e; exact hm ⟨h0, e⟩
    rw [h0] at s0
    clear h h0 hm
    go_enter Try.func128, Try.ntmps128
    go_wp2_with fail
    go_region
    go_wp2
    exact bodyPost_ret (v := .tuple #[]) (by simp [results, Try.results128, go_sem]) rfl ⟨rfl, HE.out.drew⟩
  · have b0 : ((n.slot k).st != 1) = true := by simp [h0]
    clear h h0 hm
    go_enter Try.func128, Try.ntmps128
    go_wp2_with fail
    go_region
    go_wp2
    exact bodyPost_ret (v := .tuple #[]) (by simp [results, Try.results128, go_sem]) rfl ⟨rfl, HE.out.drew⟩

set_option maxHeartbeats 4000000 in
theorem pmeet_yes (h : PF w B L v i g W n q) {k : Nat} (hk : k < 4) (hm : meetsP (n.slot k) q) (j : Nat) (hj : j < L.procs.length) (hji : j ≠ i) (hw : (n.slot k).wh = (j : Int)) (hn0 : 0 ≤ q.node) (hn : q.node ≤ 1000000) :
    Calls Try.prog 128 #[.pointer (some ⟨L.tb, 0, none⟩), I i, .pointer (some ⟨L.tb, 8 + v * 21 + 6 + k * 3, none⟩)] W fun e w' => e = .returned (.tuple #[]) ∧ PF w B L v i g w' (n.setSlot k ⟨2, (n.slot k).wh, i⟩) (settlePP q ⟨(L.procs[j]).kind, (L.procs[j]).oval, (L.procs[j]).onode⟩ 1) := by
  have s0 := h.scell hk 0 (by omega)
  have s1 := h.scell hk 1 (by omega)
  have s2 := h.scell hk 2 (by omega)
  have c8 := h.pcell 8 (by omega)
  obtain ⟨cap, p1, p2, p3, p4⟩ := h.pv
  have hi : (i : Int) < (L.procs.length : Int) := by have := h.hi; omega
  have hjl : (j : Int) < (L.procs.length : Int) := by omega
  have o0 := h.other j hj hji 0 (by omega)
  have o1 := h.other j hj hji 1 (by omega)
  have o2 := h.other j hj hji 2 (by omega)
  have fz := h.fzQ
  have fn := h.fzN
  have hne := h.ne
  have lN := h.ltN
  have lQ := cell_lt c8
  unfold maxLen at p3 p4
  simp only [ppCells, slCells, List.getElem?_cons_succ, List.getElem?_cons_zero, Nat.add_zero] at s0 s1 s2 c8 o0 o1 o2
  have h1 := h.setS hk 0 (by omega) (I 2) ⟨2, (n.slot k).wh, (n.slot k).by'⟩ rfl
  have h2 := h1.setS hk 2 (by omega) (I i) ⟨2, (n.slot k).wh, i⟩ (by rw [setSlot_slot _ _ hk]; rfl)
  rw [setSlot_twice, Nat.add_zero] at h2
  unfold meetsP at hm
  have HS : Hid (∀ W', Below _ _ W' → _) := fun W' (hb : Below ((W.setCell ⟨L.tb, 8 + v * 21 + 6 + k * 3, none⟩ (I 2)).setCell ⟨L.tb, 8 + v * 21 + 6 + k * 3 + 2, none⟩ (I i)).heap.size ((W.setCell ⟨L.tb, 8 + v * 21 + 6 + k * 3, none⟩ (I 2)).setCell ⟨L.tb, 8 + v * 21 + 6 + k * 3 + 2, none⟩ (I i)) W') => settle_c (h2.below hb) ⟨(L.procs[j]).kind, (L.procs[j]).oval, (L.procs[j]).onode⟩ hn0 hn 1 (by omega) (by omega)
  rw [hm.1] at s0
  rw [hm.2] at s1 hw
  rw [hw] at s1 c8
  unfold opV at HS
  simp only at HS
  generalize (L.procs[j]).kind = ok at *
  generalize (L.procs[j]).oval = ov at *
  generalize (L.procs[j]).onode = on at *
  generalize L.procs.length = np at *
  clear h h1 h2 hm hw
  go_enter Try.func128, Try.ntmps128
  go_wp2_with fail
  go_region
  go_wp2_with fail
  go_region
  go_wp2_with fail
  refine Calls.mono (HS.out _ ?hb) ?_
  case hb => exact ((Below.refl _ _).alloc (Nat.le_refl _) _).drew.drew
  rintro e w1 ⟨rfl, hf⟩
  go_wp2_with fail
  go_end0
  exact ⟨rfl, hf⟩

end

section
variable {w : World} {B : Nat} {L : PLay} {v i g : Nat} {W : World} {n : PN} {q : PP}

/-- What stepAtSlot, stepAtLeaf and step read first. -/
structure PFacts (L : PLay) (v i g : Nat) (W : World) (n : PN) (q : PP) (np cap : Nat) : Prop where
  c3 : W.cell? ⟨g, i * 11 + 3, none⟩ = some (I q.phase)
  c4 : W.cell? ⟨g, i * 11 + 4, none⟩ = some (I q.node)
  c7 : W.cell? ⟨g, i * 11 + 7, none⟩ = some (I q.slot)
  p1 : W.cell? ⟨L.tb, 680, none⟩ = some (.slice (some ⟨g, 0, none⟩) np cap)
  p2 : np ≤ cap
  p3 : np ≤ 2 ^ 63 - 1
  p4 : cap ≤ 2 ^ 63 - 1
  hi : (i : Int) < (np : Int)
  hv : (v : Int) < 32
  fz : ∀ k, W.frozen? ⟨g, k, none⟩ = false
  fn : ∀ k, W.frozen? ⟨L.tb, k, none⟩ = false
  hne : L.tb ≠ g
  lN : L.tb < W.heap.size
  lQ : g < W.heap.size

theorem PF.facts (h : PF w B L v i g W n q) : ∃ cap, PFacts L v i g W n q L.procs.length cap := by
  obtain ⟨cap, p1, p2, p3, p4⟩ := h.pv
  have hl : L.nodes.length = 32 := by have := h.rep.len; simpa [PLay.foc] using this
  exact ⟨cap, h.pcell 3 (by omega), h.pcell 4 (by omega), h.pcell 7 (by omega), p1, p2, p3, p4, by have := h.hi; omega, by have := h.hv; omega, h.fzQ, h.fzN, h.ne, h.ltN, cell_lt (h.pcell 3 (by omega))⟩

set_option maxHeartbeats 2000000 in
theorem atSlot_wide (h : PF w B L v i g W n q) (hv : q.node = (v : Int)) {k : Nat} (hs : q.slot = (k : Int)) (hk : k < 4) (hph : q.phase = 3) (draw : Int) (m : Nat) (hm : n.width = (m : Int)) (hm1 : 1 ≤ m) (hm4 : m ≤ 1000) :
    Calls Try.prog 100 #[.pointer (some ⟨L.tb, 0, none⟩), I i, I draw] W fun e w' => e = .returned (.tuple #[]) ∧ PF w B L v i g w' n { q with width := m, slot := draw % m, phase := 4 } := by
  obtain ⟨cap, c3, c4, c7, p1, p2, p3, p4, hi, hv32, fz, fn, hne, lN, lQ⟩ := h.facts
  rw [hv] at c4
  rw [hs] at c7
  rw [hph] at c3
  have hk4 : (k : Int) < 4 := by omega
  have c6 := h.pcell 6 (by omega)
  have d5 := h.ncell 5 (by omega)
  simp only [ppCells, pnCells, List.getElem?_cons_succ, List.getElem?_cons_zero] at c6 d5
  rw [hm] at d5
  have hmo := fun W => modulo_c draw m hm1 hm4 W
  replace hmo : Hid _ := hmo
  have HE : Hid (PF w B L v i g (((W.setCell ⟨g, i * 11 + 6, none⟩ (I m)).setCell ⟨g, i * 11 + 7, none⟩ (I (draw % m))).setCell ⟨g, i * 11 + 3, none⟩ (I 4)) n { q with width := m, slot := draw % m, phase := 4 }) :=
    ((h.setQ 6 (by omega) (I m) { q with width := m } rfl).setQ 7 (by omega) (I (draw % m)) { q with width := m, slot := draw % m } rfl).setQ 3 (by omega) (I 4) _ rfl
  generalize L.procs.length = np at *
  clear h hv hs hph hm
  go_enter Try.func100, Try.ntmps100
  go_wp2_with fail
  go_region
  go_wp2_with fail
  go_region
  go_wp2_with fail
  refine Calls.mono (hmo.out _) ?_
  rintro e w1 ⟨rfl, rfl⟩
  go_wp2
  go_end0
  exact ⟨rfl, HE.out.drew.drew⟩

set_option maxHeartbeats 2000000 in
theorem atSlot_look (h : PF w B L v i g W n q) (hv : q.node = (v : Int)) {k : Nat} (hs : q.slot = (k : Int)) (hk : k < 4) (hph : q.phase = 4) (draw : Int) :
    Calls Try.prog 100 #[.pointer (some ⟨L.tb, 0, none⟩), I i, I draw] W fun e w' => e = .returned (.tuple #[]) ∧ PF w B L v i g w' n (slotPP (n.slot k) q) := by
  obtain ⟨cap, c3, c4, c7, p1, p2, p3, p4, hi, hv32, fz, fn, hne, lN, lQ⟩ := h.facts
  rw [hv] at c4
  rw [hs] at c7
  rw [hph] at c3
  have hk4 : (k : Int) < 4 := by omega
  have hd := lookAtSlot_c h.drew.drew hk
  replace hd : Hid _ := hd
  generalize L.procs.length = np at *
  clear h hv hs hph
  go_enter Try.func100, Try.ntmps100
  go_wp2_with fail
  go_region
  go_wp2_with fail
  go_region
  go_wp2_with fail
  refine Calls.mono hd.out ?_
  rintro e w1 ⟨rfl, hf⟩
  go_wp2_with fail
  go_end0
  exact ⟨rfl, hf⟩

set_option maxHeartbeats 2000000 in
theorem atSlot_claim (h : PF w B L v i g W n q) (hv : q.node = (v : Int)) {k : Nat} (hs : q.slot = (k : Int)) (hk : k < 4) (hph : q.phase = 5) (draw : Int) :
    Calls Try.prog 100 #[.pointer (some ⟨L.tb, 0, none⟩), I i, I draw] W fun e w' => e = .returned (.tuple #[]) ∧ PF w B L v i g w' (claimPN n k i) (claimPP L.c (n.slot k) q) := by
  obtain ⟨cap, c3, c4, c7, p1, p2, p3, p4, hi, hv32, fz, fn, hne, lN, lQ⟩ := h.facts
  rw [hv] at c4
  rw [hs] at c7
  rw [hph] at c3
  have hk4 : (k : Int) < 4 := by omega
  have hd := claim_c h.drew.drew hk
  replace hd : Hid _ := hd
  generalize L.procs.length = np at *
  clear h hv hs hph
  go_enter Try.func100, Try.ntmps100
  go_wp2_with fail
  go_region
  go_wp2_with fail
  go_region
  go_wp2_with fail
  refine Calls.mono hd.out ?_
  rintro e w1 ⟨rfl, hf⟩
  go_wp2_with fail
  go_end0
  exact ⟨rfl, hf⟩

set_option maxHeartbeats 2000000 in
theorem atSlot_wait (h : PF w B L v i g W n q) (hv : q.node = (v : Int)) {k : Nat} (hs : q.slot = (k : Int)) (hk : k < 4) (hph : q.phase = 6) (draw : Int) (hp : q.pat ≤ 1000000) :
    Calls Try.prog 100 #[.pointer (some ⟨L.tb, 0, none⟩), I i, I draw] W fun e w' => e = .returned (.tuple #[]) ∧ PF w B L v i g w' (waitPN n k q) (waitPP (n.slot k) q) := by
  obtain ⟨cap, c3, c4, c7, p1, p2, p3, p4, hi, hv32, fz, fn, hne, lN, lQ⟩ := h.facts
  rw [hv] at c4
  rw [hs] at c7
  rw [hph] at c3
  have hk4 : (k : Int) < 4 := by omega
  have hd := wait_c h.drew.drew hk hp
  replace hd : Hid _ := hd
  generalize L.procs.length = np at *
  clear h hv hs hph
  go_enter Try.func100, Try.ntmps100
  go_wp2_with fail
  go_region
  go_wp2_with fail
  go_region
  go_wp2_with fail
  refine Calls.mono hd.out ?_
  rintro e w1 ⟨rfl, hf⟩
  go_wp2_with fail
  go_end0
  exact ⟨rfl, hf⟩

set_option maxHeartbeats 2000000 in
theorem atSlot_meet_no (h : PF w B L v i g W n q) (hv : q.node = (v : Int)) {k : Nat} (hs : q.slot = (k : Int)) (hk : k < 4) (hph : q.phase = 8) (draw : Int) (hm : ¬ meetsP (n.slot k) q) :
    Calls Try.prog 100 #[.pointer (some ⟨L.tb, 0, none⟩), I i, I draw] W fun e w' => e = .returned (.tuple #[]) ∧ PF w B L v i g w' n { q with phase := 9 } := by
  obtain ⟨cap, c3, c4, c7, p1, p2, p3, p4, hi, hv32, fz, fn, hne, lN, lQ⟩ := h.facts
  rw [hv] at c4
  rw [hs] at c7
  rw [hph] at c3
  have hk4 : (k : Int) < 4 := by omega
  have hd := pmeet_no h.drew.drew hk hm
  replace hd : Hid _ := hd
  generalize L.procs.length = np at *
  clear h hv hs hph
  go_enter Try.func100, Try.ntmps100
  go_wp2_with fail
  go_region
  go_wp2_with fail
  go_region
  go_wp2_with fail
  refine Calls.mono hd.out ?_
  rintro e w1 ⟨rfl, hf⟩
  go_wp2_with fail
  go_end0
  exact ⟨rfl, hf⟩

set_option maxHeartbeats 2000000 in
theorem atSlot_meet_yes (h : PF w B L v i g W n q) (hv : q.node = (v : Int)) {k : Nat} (hs : q.slot = (k : Int)) (hk : k < 4) (hph : q.phase = 8) (draw : Int) (hm : meetsP (n.slot k) q) (j : Nat) (hj : j < L.procs.length) (hji : j ≠ i) (hw : (n.slot k).wh = (j : Int)) (hn0 : 0 ≤ q.node) (hn : q.node ≤ 1000000) :
    Calls Try.prog 100 #[.pointer (some ⟨L.tb, 0, none⟩), I i, I draw] W fun e w' => e = .returned (.tuple #[]) ∧ PF w B L v i g w' (n.setSlot k ⟨2, (n.slot k).wh, i⟩) (settlePP q ⟨(L.procs[j]).kind, (L.procs[j]).oval, (L.procs[j]).onode⟩ 1) := by
  obtain ⟨cap, c3, c4, c7, p1, p2, p3, p4, hi, hv32, fz, fn, hne, lN, lQ⟩ := h.facts
  rw [hv] at c4
  rw [hs] at c7
  rw [hph] at c3
  have hk4 : (k : Int) < 4 := by omega
  have hd := pmeet_yes h.drew.drew hk hm j hj hji hw hn0 hn
  replace hd : Hid _ := hd
  generalize settlePP q ⟨(L.procs[j]).kind, (L.procs[j]).oval, (L.procs[j]).onode⟩ 1 = q2 at *
  clear hw hm
  generalize L.procs.length = np at *
  clear h hv hs hph
  go_enter Try.func100, Try.ntmps100
  go_wp2_with fail
  go_region
  go_wp2_with fail
  go_region
  go_wp2_with fail
  refine Calls.mono hd.out ?_
  rintro e w1 ⟨rfl, hf⟩
  go_wp2_with fail
  go_end0
  exact ⟨rfl, hf⟩

set_option maxHeartbeats 4000000 in
theorem atSlot_taken (h : PF w B L v i g W n q) (hv : q.node = (v : Int)) {k : Nat} (hs : q.slot = (k : Int)) (hk : k < 4) (hph : q.phase = 7) (draw : Int) (j : Nat) (hj : j < L.procs.length) (hji : j ≠ i) (hby : (n.slot k).by' = (j : Int)) (hn0 : 0 ≤ q.node) (hn : q.node ≤ 1000000) :
    Calls Try.prog 100 #[.pointer (some ⟨L.tb, 0, none⟩), I i, I draw] W fun e w' => e = .returned (.tuple #[]) ∧ PF w B L v i g w' (n.setSlot k zeroSL) (settlePP q ⟨(L.procs[j]).kind, (L.procs[j]).oval, (L.procs[j]).onode⟩ 0) := by
  obtain ⟨cap, c3, c4, c7, p1, p2, p3, p4, hi, hv32, fz, fn, hne, lN, lQ⟩ := h.facts
  rw [hv] at c4
  rw [hs] at c7
  rw [hph] at c3
  have hk4 : (k : Int) < 4 := by omega
  have s0 := h.scell hk 0 (by omega)
  have s1 := h.scell hk 1 (by omega)
  have s2 := h.scell hk 2 (by omega)
  have hjl : (j : Int) < (L.procs.length : Int) := by omega
  have o0 := h.other j hj hji 0 (by omega)
  have o1 := h.other j hj hji 1 (by omega)
  have o2 := h.other j hj hji 2 (by omega)
  simp only [ppCells, slCells, List.getElem?_cons_succ, List.getElem?_cons_zero, Nat.add_zero] at s0 s1 s2 o0 o1 o2
  rw [hby] at s2
  have h2 := h.setS3 hk zeroSL
  have HS : Hid (∀ W', Below _ _ W' → _) := fun W' (hb : Below (((W.setCell ⟨L.tb, 8 + v * 21 + 6 + k * 3, none⟩ (I 0)).setCell ⟨L.tb, 8 + v * 21 + 6 + k * 3 + 1, none⟩ (I 0)).setCell ⟨L.tb, 8 + v * 21 + 6 + k * 3 + 2, none⟩ (I 0)).heap.size (((W.setCell ⟨L.tb, 8 + v * 21 + 6 + k * 3, none⟩ (I 0)).setCell ⟨L.tb, 8 + v * 21 + 6 + k * 3 + 1, none⟩ (I 0)).setCell ⟨L.tb, 8 + v * 21 + 6 + k * 3 + 2, none⟩ (I 0)) W') => settle_c (h2.below hb) ⟨(L.procs[j]).kind, (L.procs[j]).oval, (L.procs[j]).onode⟩ hn0 hn 0 (by omega) (by omega)
  unfold opV at HS
  simp only at HS
  generalize (L.procs[j]).kind = ok at *
  generalize (L.procs[j]).oval = ov at *
  generalize (L.procs[j]).onode = on at *
  generalize L.procs.length = np at *
  clear h h2 hby hv hs hph
  go_enter Try.func100, Try.ntmps100
  go_wp2_with fail
  go_region
  go_wp2_with fail
  go_region
  go_wp2_with fail
  go_region
  go_wp2_with fail
  refine Calls.mono (HS.out _ ?hb) ?_
  case hb => first | exact ((Below.refl _ _).alloc (Nat.le_refl _) _).drew.drew.drew | trace_state
  rintro e w1 ⟨rfl, hf⟩
  go_wp2_with fail
  go_end0
  exact ⟨rfl, hf⟩

def growW (c : Conf) (q : PP) : Int := if c.width < 2 * q.width then c.width else 2 * q.width
def shrinkW (q : PP) : Int := if q.width < 2 then 1 else q.width / 2

set_option maxHeartbeats 2000000 in
theorem atSlot_grow (h : PF w B L v i g W n q) (hv : q.node = (v : Int)) {k : Nat} (hs : q.slot = (k : Int)) (hk : k < 4) (hph : q.phase = 9) (draw : Int) (hw0 : 0 ≤ q.width) (hw9 : q.width ≤ 1000) :
    Calls Try.prog 100 #[.pointer (some ⟨L.tb, 0, none⟩), I i, I draw] W fun e w' => e = .returned (.tuple #[]) ∧ PF w B L v i g w' { n with width := growW L.c q } { q with phase := 11 } := by
  obtain ⟨cap, c3, c4, c7, p1, p2, p3, p4, hi, hv32, fz, fn, hne, lN, lQ⟩ := h.facts
  rw [hv] at c4
  rw [hs] at c7
  rw [hph] at c3
  have hk4 : (k : Int) < 4 := by omega
  have d5 := h.ncell 5 (by omega)
  have k4 := h.conf 4 (by omega)
  simp only [pConf, pnCells, List.getElem?_cons_succ, List.getElem?_cons_zero] at d5 k4
  have hd := fun W' (hb : Below W.heap.size W W') => wider_c (h.below hb) L.c.width hw0 hw9
  replace hd : Hid _ := hd
  have HE : Hid (PF w B L v i g ((W.setCell ⟨L.tb, 8 + v * 21 + 5, none⟩ (I (growW L.c q))).setCell ⟨g, i * 11 + 3, none⟩ (I 11)) { n with width := growW L.c q } { q with phase := 11 }) :=
    (h.setN 5 (by omega) (I (growW L.c q)) { n with width := growW L.c q } rfl rfl rfl).setQ 3 (by omega) (I 11) _ rfl
  unfold growW at HE ⊢
  generalize (if L.c.width < 2 * q.width then L.c.width else 2 * q.width) = gw at *
  generalize L.procs.length = np at *
  clear h hv hs hph
  go_enter Try.func100, Try.ntmps100
  go_wp2_with fail
  go_region
  go_wp2_with fail
  go_region
  go_wp2_with fail
  refine Calls.mono (hd.out _ (Below.refl _ _).drew.drew) ?_
  rintro e w1 ⟨rfl, rfl⟩
  go_wp2
  go_end0
  exact ⟨rfl, HE.out.drew.drew⟩

set_option maxHeartbeats 2000000 in
theorem atSlot_shrink (h : PF w B L v i g W n q) (hv : q.node = (v : Int)) {k : Nat} (hs : q.slot = (k : Int)) (hk : k < 4) (hph : q.phase = 10) (draw : Int) (hw0 : 0 ≤ q.width) (hw9 : q.width ≤ 1000) :
    Calls Try.prog 100 #[.pointer (some ⟨L.tb, 0, none⟩), I i, I draw] W fun e w' => e = .returned (.tuple #[]) ∧ PF w B L v i g w' { n with width := shrinkW q } { q with phase := 11 } := by
  obtain ⟨cap, c3, c4, c7, p1, p2, p3, p4, hi, hv32, fz, fn, hne, lN, lQ⟩ := h.facts
  rw [hv] at c4
  rw [hs] at c7
  rw [hph] at c3
  have hk4 : (k : Int) < 4 := by omega
  have d5 := h.ncell 5 (by omega)
  simp only [pnCells, List.getElem?_cons_succ, List.getElem?_cons_zero] at d5
  have hd := fun W' (hb : Below W.heap.size W W') => narrower_c (h.below hb) hw0 hw9
  replace hd : Hid _ := hd
  have HE : Hid (PF w B L v i g ((W.setCell ⟨L.tb, 8 + v * 21 + 5, none⟩ (I (shrinkW q))).setCell ⟨g, i * 11 + 3, none⟩ (I 11)) { n with width := shrinkW q } { q with phase := 11 }) :=
    (h.setN 5 (by omega) (I (shrinkW q)) { n with width := shrinkW q } rfl rfl rfl).setQ 3 (by omega) (I 11) _ rfl
  unfold shrinkW at HE ⊢
  generalize (if q.width < 2 then 1 else q.width / 2) = gw at *
  generalize L.procs.length = np at *
  clear h hv hs hph
  go_enter Try.func100, Try.ntmps100
  go_wp2_with fail
  go_region
  go_wp2_with fail
  go_region
  go_wp2_with fail
  refine Calls.mono (hd.out _ (Below.refl _ _).drew.drew) ?_
  rintro e w1 ⟨rfl, rfl⟩
  go_wp2
  go_end0
  exact ⟨rfl, HE.out.drew.drew⟩

end

end Go.Proofs.Ytjnmpejcegmkhaa
