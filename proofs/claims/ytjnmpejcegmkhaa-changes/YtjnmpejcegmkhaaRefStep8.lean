/- Contracts of package prismref's leaf: the phases Store and Fetch. No statement of the seat is proved here. -/
import Derived.Test.YtjnmpejcegmkhaaRefStep7
namespace Go.Proofs.Ytjnmpejcegmkhaa
open Go.RowKit

/-- How many items the leaf v can hold. -/
def roomOf (c : Conf) (v : Nat) : Int := c.slots * 2 ^ (c.depth.toNat - Nat.log2 v)

/-- Whether what is to be stored under the ticket has room. -/
def roomyH (c : Conf) (v : Nat) (l : Hist) (t : Int) : Bool := decide (t < roomOf c v) || takenH l (t - roomOf c v)

set_option maxHeartbeats 8000000 in
set_option maxRecDepth 100000 in
theorem leaf_store_yes {w : World} {B : Nat} {L : Lay} (h : RefRep w B L) (hB : B ≤ w.heap.size) {i pb v : Nat} {p : Pr} (hp : ProcAt w L i pb p) (hph : p.phase = 13) (hv : p.node = (v : Int)) (hv6 : v < 64) (hvl : v < L.past.length) (hll : (L.hist v).length ≤ 1000000000000)
    (hs0 : 0 ≤ L.c.slots) (hs4 : L.c.slots ≤ 4) (hd0 : 0 ≤ L.c.depth) (hd4 : L.c.depth ≤ 4) (hld : (Nat.log2 v : Int) ≤ L.c.depth) (ht0 : 0 ≤ p.ticket) (ht9 : p.ticket ≤ 1000000000000) (hr : roomyH L.c v (L.hist v) p.ticket = true) :
    Calls Try.prog 86 #[.pointer (some ⟨L.tb, 0, none⟩), .pointer (some ⟨pb, 0, none⟩)] w fun e w' => e = .returned (.tuple #[]) ∧
      ∃ x, RefRep w' B ((L.hap v x ⟨8, p.ticket, p.oval, []⟩ (.slice none 0 0)).setP i { p with phase := 19 }) ∧ ChgT B [136, 125, 128] w w' := by
  have hg := fun W (hb : Below w.heap.size w W) t => taken_c (h.below hb) v hvl t
  have hd := fun W => depth_c v hv6 W
  have k1 : w.cell? ⟨L.tb, 1, none⟩ = some (I L.c.depth) := by rw [block_cell h.tree]; rfl
  have k3 : w.cell? ⟨L.tb, 3, none⟩ = some (I L.c.slots) := by rw [block_cell h.tree]; rfl
  obtain ⟨f1, f2⟩ := nb_facts hp.blk
  have c0 := f1 0
  have c1 := f1 1
  have c3 := f1 3
  have c4 := f1 4
  have c11 := f1 11
  simp only [prCells] at c0 c1 c3 c4 c11
  simp at c0 c1 c3 c4 c11
  rw [hph] at c3
  rw [hv] at c4
  have HH : Hid (∀ W, PutB w W pb (prCells p) 128 → _) := fun W (hW : PutB w W pb (prCells p) 128) => hap_then (w2 := W) (p1 := p) h hB hp hvl hll ⟨8, p.ticket, p.oval, []⟩ rfl (Below.refl _ _) hW
  have HB : Hid (PutB w w pb (prCells p) 128) := PutB.refl hp.blk
  obtain ⟨d, hdd⟩ := Int.eq_ofNat_of_zero_le hd0
  have hdn : L.c.depth.toNat = d := by omega
  unfold roomyH roomOf at hr
  rw [hdn] at hr
  rw [hdd] at k1 hld hd4
  have hl5 : Nat.log2 v ≤ d := by omega
  generalize Nat.log2 v = lg at *
  generalize hsl : L.c.slots = sl at *
  clear h hp f1 hph hv hdd hdn hd0 hll hsl hld
  replace hg : Hid _ := hg
  have hk : ∃ k : Nat, d = lg + k ∧ k ≤ 4 := ⟨d - lg, by omega, by omega⟩
  obtain ⟨k, rfl, hk4⟩ := hk
  rw [show lg + k - lg = k from by omega] at hr
  have hm0 : 0 ≤ sl * 2 ^ k ∧ sl * 2 ^ k ≤ 64 := by
    have : k = 0 ∨ k = 1 ∨ k = 2 ∨ k = 3 ∨ k = 4 := by omega
    rcases this with rfl | rfl | rfl | rfl | rfl <;> omega
  have ht := fun W hb => hg.out W hb (p.ticket - sl * 2 ^ k)
  generalize takenH (L.hist v) (p.ticket - sl * 2 ^ k) = tk at *
  have hP : (1 : Int) ≤ 2 ^ k ∧ (2 : Int) ^ k ≤ 16 := by
    have : k = 0 ∨ k = 1 ∨ k = 2 ∨ k = 3 ∨ k = 4 := by omega
    rcases this with rfl | rfl | rfl | rfl | rfl <;> decide
  have e0 : wrap64 ((2 : Int) ^ k) = 2 ^ k := Go.IntWalk.wrap64_in _ (by omega)
  have e1 : wrap64 (sl * wrap64 ((2 : Int) ^ k)) = sl * 2 ^ k := by rw [e0]; exact Go.IntWalk.wrap64_in _ (by omega)
  have e2 : wrap64 (p.ticket - sl * 2 ^ k) = p.ticket - sl * 2 ^ k := Go.IntWalk.wrap64_in _ (by omega)
  replace e1 : Hid _ := e1
  replace e2 : Hid _ := e2
  clear e0 hP hg
  by_cases hlt : p.ticket < sl * 2 ^ k
  · clear hr
    go_enter Try.func86, Try.ntmps86
    go_wp2_with fail
    refine Calls.mono (hd _) ?_
    rintro e w1 ⟨rfl, rfl⟩
    go_wp2_with fail
    go_region
    go_wp2_with fail
    rw [e1.out, e2.out]
    generalize sl * 2 ^ k = R at *
    refine Calls.mono (ht _ (Below.refl _ _).drew) ?_
    rintro e w1 ⟨rfl, rfl⟩
    go_wp2_with fail
    go_region_with (go_at_call 79; refine Calls.mono (HH.out _ HB.out.drew.drew) ?_; rintro e w2 ⟨rfl, ⟨z1, z2⟩, z3⟩; replace z3 : Hid _ := z3)
    all_goals
      clear HH
      go_wp2
      go_end0
      exact ⟨rfl, z3.out _⟩
  · have htk : tk = true := by rw [decide_eq_false hlt] at hr; simpa using hr
    subst htk
    have hlt' : decide (p.ticket < sl * 2 ^ k) = false := by simp; omega
    clear hr
    go_enter Try.func86, Try.ntmps86
    go_wp2_with fail
    refine Calls.mono (hd _) ?_
    rintro e w1 ⟨rfl, rfl⟩
    go_wp2_with fail
    go_region
    go_wp2_with fail
    rw [e1.out, e2.out]
    generalize sl * 2 ^ k = R at *
    refine Calls.mono (ht _ (Below.refl _ _).drew) ?_
    rintro e w1 ⟨rfl, rfl⟩
    go_wp2_with fail
    go_region_with (go_at_call 79; refine Calls.mono (HH.out _ HB.out.drew.drew) ?_; rintro e w2 ⟨rfl, ⟨z1, z2⟩, z3⟩; replace z3 : Hid _ := z3)
    all_goals
      clear HH
      go_wp2
      go_end0
      exact ⟨rfl, z3.out _⟩

set_option maxHeartbeats 8000000 in
set_option maxRecDepth 100000 in
theorem leaf_store_no {w : World} {B : Nat} {L : Lay} (h : RefRep w B L) {i pb v : Nat} {p : Pr} (hp : ProcAt w L i pb p) (hph : p.phase = 13) (hv : p.node = (v : Int)) (hv6 : v < 64) (hvl : v < L.past.length)
    (hs0 : 0 ≤ L.c.slots) (hs4 : L.c.slots ≤ 4) (hd0 : 0 ≤ L.c.depth) (hd4 : L.c.depth ≤ 4) (hld : (Nat.log2 v : Int) ≤ L.c.depth) (ht0 : 0 ≤ p.ticket) (ht9 : p.ticket ≤ 1000000000000) (hr : roomyH L.c v (L.hist v) p.ticket = false) :
    Calls Try.prog 86 #[.pointer (some ⟨L.tb, 0, none⟩), .pointer (some ⟨pb, 0, none⟩)] w fun e w' => e = .returned (.tuple #[]) ∧ Below w.heap.size w w' := by
  have hg := fun W (hb : Below w.heap.size w W) t => taken_c (h.below hb) v hvl t
  have hd := fun W => depth_c v hv6 W
  have k1 : w.cell? ⟨L.tb, 1, none⟩ = some (I L.c.depth) := by rw [block_cell h.tree]; rfl
  have k3 : w.cell? ⟨L.tb, 3, none⟩ = some (I L.c.slots) := by rw [block_cell h.tree]; rfl
  obtain ⟨f1, f2⟩ := nb_facts hp.blk
  have c0 := f1 0
  have c1 := f1 1
  have c3 := f1 3
  have c4 := f1 4
  have c11 := f1 11
  simp only [prCells] at c0 c1 c3 c4 c11
  simp at c0 c1 c3 c4 c11
  rw [hph] at c3
  rw [hv] at c4
  obtain ⟨d, hdd⟩ := Int.eq_ofNat_of_zero_le hd0
  have hdn : L.c.depth.toNat = d := by omega
  unfold roomyH roomOf at hr
  rw [hdn] at hr
  rw [hdd] at k1 hld hd4
  have hl5 : Nat.log2 v ≤ d := by omega
  generalize Nat.log2 v = lg at *
  generalize hsl : L.c.slots = sl at *
  clear h hp f1 hph hv hdd hdn hd0 hsl hld
  replace hg : Hid _ := hg
  have hk : ∃ k : Nat, d = lg + k ∧ k ≤ 4 := ⟨d - lg, by omega, by omega⟩
  obtain ⟨k, rfl, hk4⟩ := hk
  rw [show lg + k - lg = k from by omega] at hr
  have hm0 : 0 ≤ sl * 2 ^ k ∧ sl * 2 ^ k ≤ 64 := by
    have : k = 0 ∨ k = 1 ∨ k = 2 ∨ k = 3 ∨ k = 4 := by omega
    rcases this with rfl | rfl | rfl | rfl | rfl <;> omega
  have ht := fun W hb => hg.out W hb (p.ticket - sl * 2 ^ k)
  generalize takenH (L.hist v) (p.ticket - sl * 2 ^ k) = tk at *
  have hP : (1 : Int) ≤ 2 ^ k ∧ (2 : Int) ^ k ≤ 16 := by
    have : k = 0 ∨ k = 1 ∨ k = 2 ∨ k = 3 ∨ k = 4 := by omega
    rcases this with rfl | rfl | rfl | rfl | rfl <;> decide
  have e0 : wrap64 ((2 : Int) ^ k) = 2 ^ k := Go.IntWalk.wrap64_in _ (by omega)
  have e1 : wrap64 (sl * wrap64 ((2 : Int) ^ k)) = sl * 2 ^ k := by rw [e0]; exact Go.IntWalk.wrap64_in _ (by omega)
  have e2 : wrap64 (p.ticket - sl * 2 ^ k) = p.ticket - sl * 2 ^ k := Go.IntWalk.wrap64_in _ (by omega)
  replace e1 : Hid _ := e1
  replace e2 : Hid _ := e2
  clear e0 hP hg
  have hlt : ¬ p.ticket < sl * 2 ^ k := by intro hh; rw [decide_eq_true hh] at hr; simp at hr
  have htk : tk = false := by rw [decide_eq_false hlt] at hr; simpa using hr
  subst htk
  have hlt' : decide (p.ticket < sl * 2 ^ k) = false := by simp; omega
  clear hr
  go_enter Try.func86, Try.ntmps86
  go_wp2_with fail
  refine Calls.mono (hd _) ?_
  rintro e w1 ⟨rfl, rfl⟩
  go_wp2_with fail
  go_region
  go_wp2_with fail
  rw [e1.out, e2.out]
  generalize sl * 2 ^ k = R at *
  refine Calls.mono (ht _ (Below.refl _ _).drew) ?_
  rintro e w1 ⟨rfl, rfl⟩
  go_wp2
  go_end0
  exact ⟨rfl, (Below.refl _ _).drew⟩

set_option maxHeartbeats 4000000 in
set_option maxRecDepth 100000 in
theorem leaf_fetch_yes {w : World} {B : Nat} {L : Lay} (h : RefRep w B L) (hB : B ≤ w.heap.size) {i pb v : Nat} {p : Pr} (hp : ProcAt w L i pb p) (hph : p.phase = 14) (hv : p.node = (v : Int)) (hvl : v < L.past.length) (hll : (L.hist v).length ≤ 1000000000000) (x : Int) (hr : itemH (L.hist v) p.ticket = some x) :
    Calls Try.prog 86 #[.pointer (some ⟨L.tb, 0, none⟩), .pointer (some ⟨pb, 0, none⟩)] w fun e w' => e = .returned (.tuple #[]) ∧
      ∃ y, RefRep w' B ((L.hap v y ⟨9, p.ticket, 0, []⟩ (.slice none 0 0)).setP i { p with val := x, phase := 19 }) ∧ ChgT B [136, 125, 128] w w' := by
  have hg := item_c h v hvl p.ticket
  rw [hr] at hg
  unfold optV at hg
  simp only [Option.getD_some, Option.isSome_some] at hg
  obtain ⟨f1, f2⟩ := nb_facts hp.blk
  have c3 := f1 3
  have c4 := f1 4
  have c11 := f1 11
  simp only [prCells] at c3 c4 c11
  simp at c3 c4 c11
  rw [hph] at c3
  rw [hv] at c4
  have HH : Hid (∀ W, Below w.heap.size w W → _) := fun W (hW : Below w.heap.size w W) => hap_then (w2 := W.setCell ⟨pb, 5, none⟩ (I x)) (p1 := { p with val := x }) h hB hp hvl hll ⟨9, p.ticket, 0, []⟩ rfl hW ((PutB.refl (hp.below hW).blk).set 5 (I x))
  have HF : Hid (∀ W : World, Below w.heap.size w W → W.cell? ⟨pb, 11, none⟩ = some (I p.ticket) ∧ W.cell? ⟨pb, 5, none⟩ = some (I p.val) ∧ W.cell? ⟨pb, 3, none⟩ = some (I p.phase) ∧ ∀ k, W.frozen? ⟨pb, k, none⟩ = false) := by
    intro W hW
    obtain ⟨g1, g2⟩ := nb_facts (hp.below hW).blk
    exact ⟨by rw [g1]; rfl, by rw [g1]; rfl, by rw [g1]; rfl, g2⟩
  clear h hp f1 hph hv hr
  go_enter Try.func86, Try.ntmps86
  go_wp2_with fail
  refine hg.mono ?_
  rintro e w1 ⟨rfl, hb⟩
  obtain ⟨g11, g5, g3, gf⟩ := HF.out w1 hb
  clear hg HF c3 c4 c11 f2
  have HB : Hid _ := hb
  clear hb
  go_wp2_with fail
  refine Calls.mono (HH.out _ HB.out) ?_
  rintro e w2 ⟨rfl, ⟨z1, z2⟩, z3⟩
  replace z3 : Hid _ := z3
  clear HH
  go_wp2
  go_end0
  exact ⟨rfl, z3.out _⟩

set_option maxHeartbeats 4000000 in
set_option maxRecDepth 100000 in
theorem leaf_fetch_no {w : World} {B : Nat} {L : Lay} (h : RefRep w B L) {i pb v : Nat} {p : Pr} (hp : ProcAt w L i pb p) (hph : p.phase = 14) (hv : p.node = (v : Int)) (hvl : v < L.past.length) (hr : itemH (L.hist v) p.ticket = none) :
    Calls Try.prog 86 #[.pointer (some ⟨L.tb, 0, none⟩), .pointer (some ⟨pb, 0, none⟩)] w fun e w' => e = .returned (.tuple #[]) ∧ Below w.heap.size w w' := by
  have hg := item_c h v hvl p.ticket
  rw [hr] at hg
  unfold optV at hg
  simp only [Option.getD_none, Option.isSome_none] at hg
  obtain ⟨f1, f2⟩ := nb_facts hp.blk
  have c3 := f1 3
  have c4 := f1 4
  have c11 := f1 11
  simp only [prCells] at c3 c4 c11
  simp at c3 c4 c11
  rw [hph] at c3
  rw [hv] at c4
  clear h hp f1 hph hv hr
  go_enter Try.func86, Try.ntmps86
  go_wp2_with fail
  refine hg.mono ?_
  rintro e w1 ⟨rfl, hb⟩
  go_wp2
  go_end0
  exact ⟨rfl, hb⟩

end Go.Proofs.Ytjnmpejcegmkhaa
