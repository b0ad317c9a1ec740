/- Contracts of package prismref's leaf: the phase Ticket. No statement of the seat is proved here. -/
import Derived.Test.YtjnmpejcegmkhaaRefStep6
namespace Go.Proofs.Ytjnmpejcegmkhaa
open Go.RowKit

theorem Lay.setP_self {L : Lay} {i : Nat} (hi : i < L.procs.length) (a b : Pr) : (L.setP i a).setP i b = L.setP i b := by
  unfold Lay.setP
  simp only [List.getD_eq_getElem?_getD]
  congr 1
  rw [List.set_set, List.getElem?_set_self hi, List.getElem?_eq_getElem hi]
  rfl

/-- Something has happened at node v. -/
abbrev Lay.hap (L : Lay) (v : Nat) (x : Value) (ev : Ev) (iv : Value) : Lay := { L with past := L.past.set v (x, (ev, iv) :: L.hist v) }

/-- A process is written behind what reads, then an event is appended, then the phase is written. -/
theorem hap_then {w w1 w2 : World} {B : Nat} {L : Lay} (h : RefRep w B L) (hB : B ≤ w.heap.size) {i pb v : Nat} {p p1 : Pr} (hp : ProcAt w L i pb p) (hvl : v < L.past.length) (hll : (L.hist v).length ≤ 1000000000000) (ev : Ev) (he : ev.items = []) (hb : Below w.heap.size w w1) (hw : PutB w1 w2 pb (prCells p1) 128) :
    Calls Try.prog 79 #[.pointer (some ⟨L.tb, 0, none⟩), I v, .agg #[I ev.what, I ev.n, I ev.v, .slice none 0 0]] w2 fun e w3 => e = .returned (.tuple #[]) ∧ (w3.cell? ⟨pb, 3, none⟩ = some (I p1.phase) ∧ w3.frozen? ⟨pb, 3, none⟩ = false) ∧ ∀ ph, ∃ x, RefRep (w3.setCell ⟨pb, 3, none⟩ (I ph)) B ((L.hap v x ev (.slice none 0 0)).setP i { p1 with phase := ph }) ∧ ChgT B [136, 125, 128] w (w3.setCell ⟨pb, 3, none⟩ (I ph)) := by
  have hp1 := hp.below hb
  obtain ⟨r1, k1⟩ := hp1.put (h.below hb) hw
  have hp2 := hp1.setP_self hw
  have hs : B ≤ w2.heap.size := by have := hb.size; have := hw.size; omega
  refine (happens_c r1 hs v hvl hll ev (.slice none 0 0) (by rw [he]; exact World.ownsRow_nil _ _ _ _)).mono ?_
  rintro e w3 ⟨e0, ⟨x, r3⟩, k3⟩
  have hb3 := k3.at hp2.blk (by decide)
  obtain ⟨g1, g2⟩ := nb_facts hb3
  refine ⟨e0, ⟨by rw [g1 3]; rfl, g2 3⟩, fun ph => ⟨x, ?_⟩⟩
  have hp3 : ProcAt w3 { L.setP i p1 with past := L.past.set v (x, (ev, .slice none 0 0) :: L.hist v) } i pb p1 := ⟨hp2.hi, hb3, hp2.eb, hp2.ep⟩
  have hpu : PutB w3 (w3.setCell ⟨pb, 3, none⟩ (I ph)) pb (prCells { p1 with phase := ph }) 128 := (PutB.refl hb3).set 3 (I ph)
  obtain ⟨r4, k4⟩ := hp3.put r3 hpu
  refine ⟨?_, ?_⟩
  · have e1 := Lay.setP_self (L := L.hap v x ev (.slice none 0 0)) (i := i) hp.hi p1 { p1 with phase := ph }
    rw [← e1]
    exact r4
  · exact (((ChgT.of_below hb).trans (k1.mono (Nat.le_refl _) (by simp))).trans (k3.mono (Nat.le_refl _) (by simp))).trans (k4.mono (Nat.le_refl _) (by simp))

set_option maxHeartbeats 4000000 in
set_option maxRecDepth 100000 in
theorem leaf_get {w : World} {B : Nat} {L : Lay} (h : RefRep w B L) (hB : B ≤ w.heap.size) {i pb v : Nat} {p : Pr} (hp : ProcAt w L i pb p) (hph : p.phase = 12) (hv : p.node = (v : Int)) (hvl : v < L.past.length) (hll : (L.hist v).length ≤ 1000000000000) (hk : p.kind = 2) :
    Calls Try.prog 86 #[.pointer (some ⟨L.tb, 0, none⟩), .pointer (some ⟨pb, 0, none⟩)] w fun e w' => e = .returned (.tuple #[]) ∧ ∃ x, RefRep w' B ((L.hap v x ⟨7, 0, 0, []⟩ (.slice none 0 0)).setP i { p with ticket := manyH 7 (-1) (L.hist v), phase := 14 }) ∧ ChgT B [136, 125, 128] w w' := by
  have hg := gets_c h v hvl
  obtain ⟨f1, f2⟩ := nb_facts hp.blk
  have c0 := f1 0
  have c3 := f1 3
  have c4 := f1 4
  have c11 := f1 11
  simp only [prCells] at c0 c3 c4 c11
  simp at c0 c3 c4 c11
  rw [hph] at c3
  rw [hk] at c0
  rw [hv] at c4
  generalize hmn : manyH 7 (-1) (L.hist v) = mn at *
  have HH : Hid (∀ W, PutB w W pb (prCells p) 128 → _) := fun W (hW : PutB w W pb (prCells p) 128) => hap_then (w2 := W.setCell ⟨pb, 11, none⟩ (I mn)) (p1 := { p with ticket := mn }) h hB hp hvl hll ⟨7, 0, 0, []⟩ rfl (Below.refl _ _) (hW.set 11 (I mn))
  have HB : Hid (PutB w w pb (prCells p) 128) := PutB.refl hp.blk
  clear h hp f1 hph hk hv hmn
  go_enter Try.func86, Try.ntmps86
  go_wp2_with fail
  refine hg.mono ?_
  rintro e w1 ⟨rfl, rfl⟩
  clear hg
  go_wp2_with fail
  first
  | refine Calls.mono (HH.out _ HB.out) ?_
  | refine Calls.mono (HH.out _ HB.out.drew) ?_
  | trace_state
  rintro e w2 ⟨rfl, ⟨z1, z2⟩, z3⟩
  replace z3 : Hid _ := z3
  clear HH
  go_wp2
  go_end0
  exact ⟨rfl, z3.out _⟩

set_option maxHeartbeats 4000000 in
set_option maxRecDepth 100000 in
theorem leaf_put {w : World} {B : Nat} {L : Lay} (h : RefRep w B L) (hB : B ≤ w.heap.size) {i pb v : Nat} {p : Pr} (hp : ProcAt w L i pb p) (hph : p.phase = 12) (hv : p.node = (v : Int)) (hvl : v < L.past.length) (hll : (L.hist v).length ≤ 1000000000000) (h0 : 0 ≤ (fromH (L.hist v)).1.n) (h9 : (fromH (L.hist v)).1.n ≤ 1000000000000000000) (hkk : manyH 6 (-1) (L.hist v) ≤ 1000000000000000000) (hk : p.kind = 1) :
    Calls Try.prog 86 #[.pointer (some ⟨L.tb, 0, none⟩), .pointer (some ⟨pb, 0, none⟩)] w fun e w' => e = .returned (.tuple #[]) ∧ ∃ x, RefRep w' B ((L.hap v x ⟨6, 0, 0, []⟩ (.slice none 0 0)).setP i { p with ticket := putsH (L.hist v), phase := 13 }) ∧ ChgT B [136, 125, 128] w w' := by
  have hg := puts_c h v hvl h0 h9 hkk
  have hmn : (fromH (L.hist v)).1.n + manyH 6 (-1) (L.hist v) = putsH (L.hist v) := rfl
  rw [hmn] at hg
  obtain ⟨f1, f2⟩ := nb_facts hp.blk
  have c0 := f1 0
  have c3 := f1 3
  have c4 := f1 4
  simp only [prCells] at c0 c3 c4
  simp at c0 c3 c4
  rw [hph] at c3
  rw [hk] at c0
  rw [hv] at c4
  generalize putsH (L.hist v) = mn at *
  have HH : Hid (∀ W, Below w.heap.size w W → _) := fun W (hW : Below w.heap.size w W) => hap_then (w2 := W.setCell ⟨pb, 11, none⟩ (I mn)) (p1 := { p with ticket := mn }) h hB hp hvl hll ⟨6, 0, 0, []⟩ rfl hW ((PutB.refl (hp.below hW).blk).set 11 (I mn))
  have HF : Hid (∀ W : World, Below w.heap.size w W → W.cell? ⟨pb, 11, none⟩ = some (I p.ticket) ∧ W.cell? ⟨pb, 3, none⟩ = some (I p.phase) ∧ ∀ k, W.frozen? ⟨pb, k, none⟩ = false) := by
    intro W hW
    obtain ⟨g1, g2⟩ := nb_facts (hp.below hW).blk
    exact ⟨by rw [g1]; rfl, by rw [g1]; rfl, g2⟩
  clear h hp f1 hph hk hv hmn h0 h9 hkk
  go_enter Try.func86, Try.ntmps86
  go_wp2_with fail
  refine hg.mono ?_
  rintro e w1 ⟨rfl, hb⟩
  obtain ⟨g11, g3, gf⟩ := HF.out w1 hb
  clear hg HF c0 c3 c4 f2
  have HB : Hid _ := hb
  clear hb
  go_wp2_with fail
  refine Calls.mono (HH.out _ HB.out) ?_
  rintro e w2 ⟨rfl, ⟨z1, z2⟩, z3⟩
  replace z3 : Hid _ := z3
  clear HH
  go_wp2
  go_end0
  exact ⟨rfl, z3.out _⟩

set_option maxHeartbeats 4000000 in
set_option maxRecDepth 100000 in
theorem leaf_inc {w : World} {B : Nat} {L : Lay} (h : RefRep w B L) (hB : B ≤ w.heap.size) {i pb v : Nat} {p : Pr} (hp : ProcAt w L i pb p) (hph : p.phase = 12) (hv : p.node = (v : Int)) (hv6 : v < 64) (hvl : v < L.past.length) (hll : (L.hist v).length ≤ 1000000000000) (h0 : 0 ≤ (fromH (L.hist v)).1.n) (h9 : (fromH (L.hist v)).1.n ≤ 100000000000000000) (hkk : manyH 6 (-1) (L.hist v) ≤ 100000000000000000) (hk : p.kind = 0) :
    Calls Try.prog 86 #[.pointer (some ⟨L.tb, 0, none⟩), .pointer (some ⟨pb, 0, none⟩)] w fun e w' => e = .returned (.tuple #[]) ∧ ∃ x, RefRep w' B ((L.hap v x ⟨6, 0, 0, []⟩ (.slice none 0 0)).setP i { p with val := rank v + putsH (L.hist v) * 2 ^ (Nat.log2 v), phase := 19 }) ∧ ChgT B [136, 125, 128] w w' := by
  have hg := puts_c h v hvl h0 (by omega) (by omega)
  have hmn : (fromH (L.hist v)).1.n + manyH 6 (-1) (L.hist v) = putsH (L.hist v) := rfl
  have hp0 : 0 ≤ putsH (L.hist v) := by rw [← hmn]; omega
  have hp9 : putsH (L.hist v) ≤ 200000000000000000 := by rw [← hmn]; omega
  rw [hmn] at hg
  have hd := fun W => depth_c v hv6 W
  have hr := fun W => rank_c v hv6 W
  have l5 := log2_le5 v hv6
  obtain ⟨f1, f2⟩ := nb_facts hp.blk
  have c0 := f1 0
  have c3 := f1 3
  have c4 := f1 4
  simp only [prCells] at c0 c3 c4
  simp at c0 c3 c4
  rw [hph] at c3
  rw [hk] at c0
  rw [hv] at c4
  generalize putsH (L.hist v) = mn at *
  have hrk : rank v ≤ 64 := by
    have : ∀ u : Fin 64, rank u.1 ≤ 64 := by decide
    exact this ⟨v, hv6⟩
  generalize rank v = rk at *
  generalize Nat.log2 v = lg at *
  have HH : Hid (∀ W x, Below w.heap.size w W → x = rk + mn * 2 ^ lg → _) := fun W x (hW : Below w.heap.size w W) (hx : x = rk + mn * 2 ^ lg) => hap_then (w2 := (W.setCell ⟨pb, 5, none⟩ (I x)).drew) (p1 := { p with val := rk + mn * 2 ^ lg }) h hB hp hvl hll ⟨6, 0, 0, []⟩ rfl hW (by rw [hx]; exact ((PutB.refl (hp.below hW).blk).set 5 (I (rk + mn * 2 ^ lg))).drew)
  have HF : Hid (∀ W : World, Below w.heap.size w W → W.cell? ⟨pb, 5, none⟩ = some (I p.val) ∧ W.cell? ⟨pb, 3, none⟩ = some (I p.phase) ∧ ∀ k, W.frozen? ⟨pb, k, none⟩ = false) := by
    intro W hW
    obtain ⟨g1, g2⟩ := nb_facts (hp.below hW).blk
    exact ⟨by rw [g1]; rfl, by rw [g1]; rfl, g2⟩
  replace hd : Hid _ := hd
  replace hr : Hid _ := hr
  clear h hp f1 hph hk hv hmn h0 h9 hkk
  have hl : lg = 0 ∨ lg = 1 ∨ lg = 2 ∨ lg = 3 ∨ lg = 4 ∨ lg = 5 := by omega
  rcases hl with rfl | rfl | rfl | rfl | rfl | rfl
  all_goals
    go_enter Try.func86, Try.ntmps86
    go_wp2_with fail
    refine hg.mono ?_
    rintro e w1 ⟨rfl, hb⟩
    obtain ⟨g11, g3, gf⟩ := HF.out w1 hb
    clear hg HF c0 c3 c4 f2
    have HB : Hid _ := hb
    clear hb
    go_wp2_with fail
    refine Calls.mono (hd.out _) ?_
    rintro e w2 ⟨rfl, rfl⟩
    go_wp2_with fail
    go_region_with (go_at_call 110; refine Calls.mono (hr.out _) ?_; rintro e w2 ⟨rfl, rfl⟩)
    all_goals
      go_wp2_with fail
      refine Calls.mono (HH.out _ _ HB.out (by omega)) ?_
      rintro e w2 ⟨rfl, ⟨z1, z2⟩, z3⟩
      replace z3 : Hid _ := z3
      clear HH
      go_wp2
      go_end0
      exact ⟨rfl, z3.out _⟩

end Go.Proofs.Ytjnmpejcegmkhaa
