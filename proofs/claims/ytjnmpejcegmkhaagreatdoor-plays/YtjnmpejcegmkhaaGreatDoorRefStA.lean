/- Contracts of package prismref's small functions that write a process: child, up, ends, settled; remainder. Contracts of package prismref's meeting, phase by phase: Wide, Slot, Claim, Wait. Contracts of package prismref's meeting, phase by phase: Slot, Taken, Grow, Shrink. Contracts of package prismref's meeting, phase by phase: Taken, Grow, Shrink. Contracts of package prismref's meeting: the phase Meet. Contracts of package prismref's meeting: the phase Meet, where the kept one is met. Contracts of package prismref's look, of an Inc, a Put or a Get. Contracts of package prismref's leaf: the phase Ticket. Contracts of package prismref's leaf: the phases Store and Fetch. Contracts of package prismref's Step: its errors, and by phase. No statement of the seat is proved here. -/
import Derived.Test.YtjnmpejcegmkhaaGreatDoorRefB
import Derived.Deep.QuietTactic
import Derived.BigQuiet
namespace Go.Proofs.YtjnmpejcegmkhaaGreatDoor
open Go.RowKit

/-- Nothing but block b has turned; it holds cs now. -/
structure PutB (w w' : World) (b : Nat) (cs : Array Value) (T : TypeId) : Prop where
  os : w'.os = w.os
  tape : w'.tape = w.tape
  output : w'.output = w.output
  size : w'.heap.size = w.heap.size
  blk : w'.heap[b]? = some (.cells cs T (0, 0))
  other : ∀ k, k ≠ b → w'.heap[k]? = w.heap[k]?

theorem PutB.refl {w : World} {b : Nat} {cs : Array Value} {T : TypeId} (h : w.heap[b]? = some (.cells cs T (0, 0))) : PutB w w b cs T := ⟨rfl, rfl, rfl, rfl, h, fun _ _ => rfl⟩
theorem PutB.set {w0 w : World} {b : Nat} {cs : Array Value} {T : TypeId} (h : PutB w0 w b cs T) (j : Nat) (x : Value) : PutB w0 (w.setCell ⟨b, j, none⟩ x) b (cs.setIfInBounds j x) T :=
  ⟨h.os, h.tape, h.output, by simpa [World.setCell] using h.size, nb_set h.blk j x, fun k hk => by rw [Below.heap_setCell _ _ _ _ hk]; exact h.other k hk⟩
theorem PutB.drew {w0 w : World} {b : Nat} {cs : Array Value} {T : TypeId} (h : PutB w0 w b cs T) : PutB w0 w.drew b cs T := ⟨h.os, h.tape, h.output, h.size, h.blk, h.other⟩
theorem PutB.trans {w0 w w' : World} {b : Nat} {cs cs' : Array Value} {T : TypeId} (h : PutB w0 w b cs T) (k : PutB w w' b cs' T) : PutB w0 w' b cs' T :=
  ⟨k.os.trans h.os, k.tape.trans h.tape, k.output.trans h.output, k.size.trans h.size, k.blk, fun i hi => (k.other i hi).trans (h.other i hi)⟩
theorem PutB.chg {w w' : World} {b B : Nat} {cs : Array Value} {T : TypeId} {Ts : List TypeId} (h : PutB w w' b cs T) (hB : B ≤ b) {cs0 : Array Value} (h0 : w.heap[b]? = some (.cells cs0 T (0, 0))) (hT : T ∈ Ts) : ChgT B Ts w w' :=
  ⟨h.os, h.tape, h.output, Nat.le_of_eq h.size.symm, fun k _ hc => h.other k (by
    intro e
    subst e
    rcases hc with hc | hc
    · omega
    · exact hc _ _ _ h0 hT)⟩

abbrev Lay.setP (L : Lay) (i : Nat) (p : Pr) : Lay := { L with procs := L.procs.set i ((L.procs.getD i (0, p)).1, p) }

theorem RefRep.putP {w w' : World} {B : Nat} {L : Lay} (h : RefRep w B L) {i : Nat} (hi : i < L.procs.length) {p : Pr} (hp : PutB w w' (L.procs[i]).1 (prCells p) 109) : RefRep w' B (L.setP i p) := by
  have hc : ChgT B [109] w w' := hp.chg (h.pblk i hi).2 (h.pblk i hi).1 (by simp)
  have eg : (L.procs.getD i (0, p)).1 = (L.procs[i]).1 := by simp [List.getD_eq_getElem?_getD, List.getElem?_eq_getElem hi]
  have en : ∀ k, (hk : k < L.procs.length) → (hk' : k < (L.setP i p).procs.length) → ((L.setP i p).procs[k]).1 = (L.procs[k]).1 := by
    intro k hk hk'
    show ((L.procs.set i _)[k]).1 = _
    by_cases e : k = i
    · subst e; simp only [List.getElem_set_self]; exact eg
    · simp only [List.getElem_set_ne (Ne.symm e)]
  have el : (L.setP i p).procs.length = L.procs.length := by simp
  constructor
  · exact hc.at h.tree (by decide)
  · exact h.treeB
  · have := hc.row h.prow (by decide)
    have em : (L.setP i p).procs.map (fun p => Value.pointer (some ⟨p.1, 0, none⟩)) = L.procs.map (fun p => Value.pointer (some ⟨p.1, 0, none⟩)) := by
      apply List.ext_getElem
      · simp
      · intro k h1 h2
        simp only [List.getElem_map]
        rw [en k (by simpa using h2) (by simpa using h1)]
    rw [em, el]
    exact this
  · intro k hk
    have hk0 : k < L.procs.length := by rw [← el]; exact hk
    rw [en k hk0 hk]
    refine ⟨?_, (h.pblk k hk0).2⟩
    by_cases e : k = i
    · subst e
      have : ((L.setP k p).procs[k]).2 = p := by
        show ((L.procs.set k _)[k]).2 = _
        simp only [List.getElem_set_self]
      rw [this]
      exact hp.blk
    · have : ((L.setP i p).procs[k]).2 = (L.procs[k]).2 := by
        show ((L.procs.set i _)[k]).2 = _
        simp only [List.getElem_set_ne (Ne.symm e)]
      rw [this, hp.other _ (fun hh => e (h.pnd k i hk0 hi hh))]
      exact (h.pblk k hk0).1
  · intro a b ha hb e
    have ha0 : a < L.procs.length := by rw [← el]; exact ha
    have hb0 : b < L.procs.length := by rw [← el]; exact hb
    rw [en a ha0 ha, en b hb0 hb] at e
    exact h.pnd a b ha0 hb0 e
  · exact hc.row h.hrow (by decide)
  · exact fun k hk => hc.row (h.hist k hk) (by decide)
  · exact fun k hk y hy => hc.row (h.items k hk y hy) (by decide)
  · exact h.hnd

set_option maxHeartbeats 1000000 in
theorem child_c {w : World} {pb : Nat} {p : Pr} (h : w.heap[pb]? = some (.cells (prCells p) 109 (0, 0))) (hn0 : 0 ≤ p.node) (hn : p.node ≤ 1000000) (b : Int) (hb0 : 0 ≤ b) (hb : b ≤ 1) :
    Calls Tryz.prog 57 #[.pointer (some ⟨pb, 0, none⟩), I b] w fun e w' => e = .returned (.tuple #[]) ∧ PutB w w' pb (prCells { p with node := 2 * p.node + b, phase := 0 }) 109 := by
  obtain ⟨f1, f2⟩ := nb_facts h
  have c4 := f1 4
  have c3 := f1 3
  have HP : Hid (PutB w ((w.setCell ⟨pb, 4, none⟩ (I (2 * p.node + b))).setCell ⟨pb, 3, none⟩ (I 0)) pb (prCells { p with node := 2 * p.node + b, phase := 0 }) 109) := by
    show PutB _ _ _ _ _
    have := ((PutB.refl h).set 4 (I (2 * p.node + b))).set 3 (I 0)
    simpa [prCells, Array.setIfInBounds] using this
  simp only [prCells] at c3 c4
  simp at c3 c4
  clear h f1
  go_enter Tryz.func57, Tryz.ntmps57
  go_wp2
  go_end0
  exact ⟨rfl, HP.out⟩

def upPr (p : Pr) : Pr := { p with node := p.node / 2, phase := if p.node / 2 = 0 then 20 else 19 }

set_option maxHeartbeats 1000000 in
theorem up_c {w : World} {pb : Nat} {p : Pr} (h : w.heap[pb]? = some (.cells (prCells p) 109 (0, 0))) (hn0 : 0 ≤ p.node) (hn : p.node ≤ 1000000) :
    Calls Tryz.prog 58 #[.pointer (some ⟨pb, 0, none⟩)] w fun e w' => e = .returned (.tuple #[]) ∧ PutB w w' pb (prCells (upPr p)) 109 := by
  obtain ⟨f1, f2⟩ := nb_facts h
  have c4 := f1 4
  have c3 := f1 3
  simp only [prCells] at c3 c4
  simp at c3 c4
  by_cases hz : p.node / 2 = 0
  · have bz : (p.node / 2 == 0) = true := by simp [hz]
    have eu : prCells (upPr p) = #[I p.kind, I p.oval, I p.onode, I 20, I (p.node / 2), I p.val, I p.wide, I p.slot, I p.pat, I p.mind, I p.met, I p.ticket, I p.steps] := by unfold upPr; rw [if_pos hz]; rfl
    have HP : Hid (PutB w (((w.setCell ⟨pb, 4, none⟩ (I (p.node / 2))).setCell ⟨pb, 3, none⟩ (I 19)).setCell ⟨pb, 3, none⟩ (I 20)) pb (prCells (upPr p)) 109) := by
      show PutB _ _ _ _ _
      rw [eu]
      exact (((PutB.refl h).set 4 (I (p.node / 2))).set 3 (I 19)).set 3 (I 20)
    clear h f1 hz eu
    go_enter Tryz.func58, Tryz.ntmps58
    go_wp2
    go_end0
    exact ⟨rfl, HP.out⟩
  · have bz : (p.node / 2 == 0) = false := by simp [hz]
    have eu : prCells (upPr p) = #[I p.kind, I p.oval, I p.onode, I 19, I (p.node / 2), I p.val, I p.wide, I p.slot, I p.pat, I p.mind, I p.met, I p.ticket, I p.steps] := by unfold upPr; rw [if_neg hz]; rfl
    have HP : Hid (PutB w ((w.setCell ⟨pb, 4, none⟩ (I (p.node / 2))).setCell ⟨pb, 3, none⟩ (I 19)) pb (prCells (upPr p)) 109) := by
      show PutB _ _ _ _ _
      rw [eu]
      exact ((PutB.refl h).set 4 (I (p.node / 2))).set 3 (I 19)
    clear h f1 hz eu
    go_enter Tryz.func58, Tryz.ntmps58
    go_wp2
    go_end0
    exact ⟨rfl, HP.out⟩

set_option maxHeartbeats 1000000 in
theorem ends_c {w : World} {pb : Nat} {p : Pr} (h : w.heap[pb]? = some (.cells (prCells p) 109 (0, 0))) (hn0 : 0 ≤ p.node) (hn : p.node ≤ 1000000) (x : Int) :
    Calls Tryz.prog 83 #[.pointer (some ⟨pb, 0, none⟩), I x] w fun e w' => e = .returned (.tuple #[]) ∧ PutB w w' pb (prCells (upPr { p with val := x })) 109 := by
  obtain ⟨f1, f2⟩ := nb_facts h
  have c5 := f1 5
  simp only [prCells] at c5
  simp at c5
  have HP : PutB w (w.setCell ⟨pb, 5, none⟩ (I x)) pb (prCells { p with val := x }) 109 := by
    show PutB _ _ _ _ _
    have := (PutB.refl h).set 5 (I x)
    simpa [prCells, Array.setIfInBounds] using this
  have hu := up_c HP.blk hn0 hn
  replace HP : Hid _ := HP
  clear h f1
  go_enter Tryz.func83, Tryz.ntmps83
  go_wp2_with fail
  refine hu.mono ?_
  rintro e w1 ⟨rfl, hp1⟩
  go_wp2
  go_end0
  exact ⟨rfl, HP.out.trans hp1⟩


def settledPr (p q : Pr) (b : Int) : Pr :=
  if p.kind = q.kind then { p with node := 2 * p.node + b, phase := 0 }
  else if p.kind = 2 then { p with val := q.oval, phase := 19 } else { p with phase := 19 }

set_option maxHeartbeats 2000000 in
theorem settled_c {w : World} {pb qb : Nat} {p q : Pr} (h : w.heap[pb]? = some (.cells (prCells p) 109 (0, 0))) (hq : w.heap[qb]? = some (.cells (prCells q) 109 (0, 0))) (hn0 : 0 ≤ p.node) (hn : p.node ≤ 1000000) (b : Int) (hb0 : 0 ≤ b) (hb : b ≤ 1) :
    Calls Tryz.prog 89 #[.pointer (some ⟨pb, 0, none⟩), .pointer (some ⟨qb, 0, none⟩), I b] w fun e w' => e = .returned (.tuple #[]) ∧ PutB w w' pb (prCells (settledPr p q b)) 109 := by
  obtain ⟨f1, f2⟩ := nb_facts h
  obtain ⟨g1, _⟩ := nb_facts hq
  have c0 := f1 0
  have c3 := f1 3
  have c5 := f1 5
  have q0 := g1 0
  have q1 := g1 1
  simp only [prCells] at c0 c3 c5 q0 q1
  simp at c0 c3 c5 q0 q1
  have hd : PutB w w.drew pb (prCells p) 109 := (PutB.refl h).drew
  by_cases hk : p.kind = q.kind
  · have bk : (p.kind == q.kind) = true := by simp [hk]
    have hs : settledPr p q b = { p with node := 2 * p.node + b, phase := 0 } := by simp [settledPr, hk]
    have hc := child_c hd.blk hn0 hn b hb0 hb
    rw [hs]
    clear hk hs h f1 g1 hq
    go_enter Tryz.func89, Tryz.ntmps89
    go_wp2
    go_region
    go_wp2_with fail
    refine hc.mono ?_
    rintro e w1 ⟨rfl, hp1⟩
    go_wp2
    exact bodyPost_ret (v := .tuple #[]) (by simp [results, Tryz.results89, go_sem]) rfl ⟨rfl, hd.trans hp1⟩
  · have bk : (p.kind == q.kind) = false := by simp [hk]
    by_cases h2 : p.kind = 2
    · have b2 : (p.kind == 2) = true := by simp [h2]
      have hs : settledPr p q b = { p with val := q.oval, phase := 19 } := by unfold settledPr; rw [if_neg hk, if_pos h2]
      have HP : Hid (PutB w ((w.drew.setCell ⟨pb, 5, none⟩ (I q.oval)).setCell ⟨pb, 3, none⟩ (I 19)) pb (prCells { p with val := q.oval, phase := 19 }) 109) := (hd.set 5 (I q.oval)).set 3 (I 19)
      rw [hs]
      clear hk hs h f1 g1 hq h2 hd
      go_enter Tryz.func89, Tryz.ntmps89
      go_wp2
      go_region
      go_wp2
      go_end0
      exact ⟨rfl, HP.out⟩
    · have b2 : (p.kind == 2) = false := by simp [h2]
      have hs : settledPr p q b = { p with phase := 19 } := by unfold settledPr; rw [if_neg hk, if_neg h2]
      have HP : Hid (PutB w (w.drew.setCell ⟨pb, 3, none⟩ (I 19)) pb (prCells { p with phase := 19 }) 109) := hd.set 3 (I 19)
      rw [hs]
      clear hk hs h f1 g1 hq h2 hd
      go_enter Tryz.func89, Tryz.ntmps89
      go_wp2
      go_region
      go_wp2
      go_end0
      exact ⟨rfl, HP.out⟩

theorem tmod_twice (x : Int) (m : Int) (hm : 0 < m) : (x.tmod m + m).tmod m = x % m := by
  have h1 : -m < x.tmod m := by
    rcases Int.le_total 0 x with hx | hx
    · have := Int.tmod_nonneg m hx; omega
    · have h2 : (-x).tmod m = -(x.tmod m) := Int.neg_tmod x m
      have h3 := Int.tmod_lt_of_pos (-x) hm
      omega
  rw [Int.tmod_eq_emod_of_nonneg (by omega), Int.add_emod_right]
  rcases Int.le_total 0 x with hx | hx
  · rw [Int.tmod_eq_emod_of_nonneg hx, Int.emod_emod]
  · have h2 := Int.tmod_def x m
    have : x.tmod m = x + m * (-(x.tdiv m)) := by rw [Int.mul_neg]; omega
    rw [this, Int.add_mul_emod_self_left]

set_option maxHeartbeats 1000000 in
theorem remainder_c (x : Int) (m : Nat) (hm : 1 ≤ m) (hm4 : m ≤ 1000) (w : World) :
    Calls Tryz.prog 62 #[I x, I m] w fun e w' => e = .returned (I (x % m)) ∧ w' = w := by
  have ht := tmod_twice x m (by omega)
  have hne : ((m : Int) == 0) = false := by simp; omega
  have hlt := Int.tmod_lt_of_pos x (by omega : (0 : Int) < m)
  have hge : -(m : Int) < x.tmod m := by
    rcases Int.le_total 0 x with hx | hx
    · have := Int.tmod_nonneg (m : Int) hx; omega
    · have h2 : (-x).tmod m = -(x.tmod m) := Int.neg_tmod x m
      have h3 := Int.tmod_lt_of_pos (-x) (by omega : (0 : Int) < m)
      omega
  have H2 : Hid ((x.tmod m + m) % m = x % m) := by
    show _ = _
    have h3 : (x.tmod m + m).tmod m = (x.tmod m + m) % m := Int.tmod_eq_emod_of_nonneg (by omega)
    rw [← h3]; exact ht
  clear ht
  go_enter Tryz.func62, Tryz.ntmps62
  go_wp2
  go_ret
  exact ⟨ret_i H2.out, rfl⟩

/-- The cells of process i, as the walks ask for them. -/
structure ProcAt (w : World) (L : Lay) (i : Nat) (pb : Nat) (p : Pr) : Prop where
  hi : i < L.procs.length
  blk : w.heap[pb]? = some (.cells (prCells p) 109 (0, 0))
  eb : (L.procs.getD i (0, p)).1 = pb
  ep : (L.procs.getD i (0, p)).2 = p

theorem RefRep.procAt {w : World} {B : Nat} {L : Lay} (h : RefRep w B L) {i : Nat} (hi : i < L.procs.length) : ProcAt w L i (L.procs[i]).1 (L.procs[i]).2 :=
  ⟨hi, (h.pblk i hi).1, by simp [List.getD_eq_getElem?_getD, List.getElem?_eq_getElem hi], by simp [List.getD_eq_getElem?_getD, List.getElem?_eq_getElem hi]⟩

theorem PutB.drewN {w0 w : World} {b : Nat} {cs : Array Value} {T : TypeId} (h : PutB w0 w b cs T) (n : Nat) : PutB w0 (w.drewN n) b cs T := by
  induction n with
  | zero => exact h
  | succ n ih => exact ih.drew

theorem ProcAt.put {w w' : World} {B : Nat} {L : Lay} {i pb : Nat} {p p' : Pr} (h : ProcAt w L i pb p) (hr : RefRep w B L) (hp : PutB w w' pb (prCells p') 109) : RefRep w' B (L.setP i p') ∧ ChgT B [109] w w' := by
  have e : (L.procs[i]'h.hi).1 = pb := by
    have := h.eb
    rw [List.getD_eq_getElem?_getD, List.getElem?_eq_getElem h.hi] at this
    exact this
  have hb := hr.pblk i h.hi
  rw [e] at hb
  exact ⟨hr.putP h.hi (by rw [e]; exact hp), hp.chg hb.2 hb.1 (by simp)⟩

set_option maxHeartbeats 2000000 in
set_option maxRecDepth 100000 in
theorem meet_wide {w : World} {B : Nat} {L : Lay} (h : RefRep w B L) {i pb v : Nat} {p : Pr} (hp : ProcAt w L i pb p) (hph : p.phase = 3) (hv : p.node = (v : Int)) (hvl : v < L.past.length) (draw : Int) (m : Nat) (hm : widthH (L.hist v) = (m : Int)) (hm1 : 1 ≤ m) (hm4 : m ≤ 1000) :
    Calls Tryz.prog 61 #[.pointer (some ⟨L.tb, 0, none⟩), .pointer (some ⟨pb, 0, none⟩), I i, I draw] w fun e w' => e = .returned (.tuple #[]) ∧ PutB w w' pb (prCells { p with wide := m, slot := draw % m, phase := 4 }) 109 := by
  have hw := width_c h v hvl
  have hrm := fun W => remainder_c draw m hm1 hm4 W
  rw [hm] at hw
  obtain ⟨f1, f2⟩ := nb_facts hp.blk
  have c3 := f1 3
  have c4 := f1 4
  have c6 := f1 6
  have c7 := f1 7
  simp only [prCells] at c3 c4 c6 c7
  simp at c3 c4 c6 c7
  rw [hph] at c3
  rw [hv] at c4
  have HP : Hid (PutB w (((w.setCell ⟨pb, 6, none⟩ (I m)).setCell ⟨pb, 7, none⟩ (I (draw % m))).setCell ⟨pb, 3, none⟩ (I 4)) pb (prCells { p with wide := m, slot := draw % m, phase := 4 }) 109) := (((PutB.refl hp.blk).set 6 (I m)).set 7 (I (draw % m))).set 3 (I 4)
  replace hrm : Hid _ := hrm
  clear h hp f1 hph hv hm
  go_enter Tryz.func61, Tryz.ntmps61
  go_wp2_with fail
  refine hw.mono ?_
  rintro e w1 ⟨rfl, rfl⟩
  clear hw
  go_wp2_with fail
  refine (hrm.out _).mono ?_
  rintro e w2 ⟨rfl, rfl⟩
  go_wp2
  go_end0
  exact ⟨rfl, HP.out⟩

set_option maxHeartbeats 2000000 in
set_option maxRecDepth 100000 in
theorem meet_claim {w : World} {B : Nat} {L : Lay} (h : RefRep w B L) {i pb : Nat} {p : Pr} (hp : ProcAt w L i pb p) (hph : p.phase = 5) (draw : Int) (hw : waitsL p.node p.slot L.procs 0 < 0) :
    Calls Tryz.prog 61 #[.pointer (some ⟨L.tb, 0, none⟩), .pointer (some ⟨pb, 0, none⟩), I i, I draw] w fun e w' => e = .returned (.tuple #[]) ∧ PutB w w' pb (prCells { p with phase := 6, met := -1, pat := L.c.spin }) 109 := by
  have hwt := fun W (hb : Below w.heap.size w W) => waits_c (h.below hb) p.node p.slot
  have k5 : w.cell? ⟨L.tb, 5, none⟩ = some (I L.c.spin) := by rw [block_cell h.tree]; rfl
  have hnt : L.tb ≠ pb := by
    intro e
    have h1 := h.tree
    rw [e, hp.blk] at h1
    simp at h1
  obtain ⟨f1, f2⟩ := nb_facts hp.blk
  have c3 := f1 3
  have c4 := f1 4
  have c7 := f1 7
  have c8 := f1 8
  have c10 := f1 10
  simp only [prCells] at c3 c4 c7 c8 c10
  simp at c3 c4 c7 c8 c10
  rw [hph] at c3
  generalize waitsL p.node p.slot L.procs 0 = wl at *
  have HP : Hid (∀ W, PutB w W pb (prCells p) 109 → PutB w ((((W.setCell ⟨pb, 3, none⟩ (I 9)).setCell ⟨pb, 3, none⟩ (I 6)).setCell ⟨pb, 10, none⟩ (I (-1))).setCell ⟨pb, 8, none⟩ (I L.c.spin)) pb (prCells { p with phase := 6, met := -1, pat := L.c.spin }) 109) := fun W hW => (((hW.set 3 (I 9)).set 3 (I 6)).set 10 (I (-1))).set 8 (I L.c.spin)
  have HB : Hid (w.heap[pb]? = some (.cells (prCells p) 109 (0, 0))) := hp.blk
  replace hwt : Hid _ := hwt
  clear h hp f1 hph
  go_enter Tryz.func61, Tryz.ntmps61
  go_wp2_with fail
  go_quiet ((go_at_call 88; exact Calls.quiet_of_same (hwt.out _ (by first | exact (Below.refl _ _).drew | exact Below.drewN' (Below.refl _ _) _ | exact Below.refl _ _))))
  go_wp2
  go_end0
  first
  | exact ⟨rfl, HP.out _ ((PutB.refl HB.out).drewN _)⟩
  | exact ⟨rfl, (HP.out _ (PutB.refl HB.out)).drewN _⟩

set_option maxHeartbeats 2000000 in
set_option maxRecDepth 100000 in
theorem meet_claim_no {w : World} {B : Nat} {L : Lay} (h : RefRep w B L) {i pb : Nat} {p : Pr} (hp : ProcAt w L i pb p) (hph : p.phase = 5) (draw : Int) (hw : 0 ≤ waitsL p.node p.slot L.procs 0) :
    Calls Tryz.prog 61 #[.pointer (some ⟨L.tb, 0, none⟩), .pointer (some ⟨pb, 0, none⟩), I i, I draw] w fun e w' => e = .returned (.tuple #[]) ∧ PutB w w' pb (prCells { p with phase := 9 }) 109 := by
  have hwt := fun W (hb : Below w.heap.size w W) => waits_c (h.below hb) p.node p.slot
  obtain ⟨f1, f2⟩ := nb_facts hp.blk
  have c3 := f1 3
  have c4 := f1 4
  have c7 := f1 7
  simp only [prCells] at c3 c4 c7
  simp at c3 c4 c7
  rw [hph] at c3
  generalize waitsL p.node p.slot L.procs 0 = wl at *
  have hd : decide (wl < 0) = false := by simp; omega
  have HP : Hid (∀ W, PutB w W pb (prCells p) 109 → PutB w (W.setCell ⟨pb, 3, none⟩ (I 9)) pb (prCells { p with phase := 9 }) 109) := fun W hW => hW.set 3 (I 9)
  have HB : Hid (w.heap[pb]? = some (.cells (prCells p) 109 (0, 0))) := hp.blk
  replace hwt : Hid _ := hwt
  clear h hp f1 hph
  go_enter Tryz.func61, Tryz.ntmps61
  go_wp2_with fail
  go_quiet ((go_at_call 88; exact Calls.quiet_of_same (hwt.out _ (by first | exact (Below.refl _ _).drew | exact Below.drewN' (Below.refl _ _) _ | exact Below.refl _ _))))
  go_wp2
  go_end0
  first
  | exact ⟨rfl, HP.out _ ((PutB.refl HB.out).drewN _)⟩
  | exact ⟨rfl, (HP.out _ (PutB.refl HB.out)).drewN _⟩

def waitPr (p : Pr) : Pr := if 0 ≤ p.met then { p with phase := 7 } else if 0 < p.pat then { p with pat := p.pat - 1 } else { p with phase := 10 }

set_option maxHeartbeats 2000000 in
set_option maxRecDepth 100000 in
theorem meet_wait {w : World} {L : Lay} {i pb : Nat} {p : Pr} (hb : w.heap[pb]? = some (.cells (prCells p) 109 (0, 0))) (hph : p.phase = 6) (hp9 : p.pat ≤ 1000000) (draw : Int) :
    Calls Tryz.prog 61 #[.pointer (some ⟨L.tb, 0, none⟩), .pointer (some ⟨pb, 0, none⟩), I i, I draw] w fun e w' => e = .returned (.tuple #[]) ∧ PutB w w' pb (prCells (waitPr p)) 109 := by
  obtain ⟨f1, f2⟩ := nb_facts hb
  have c3 := f1 3
  have c8 := f1 8
  have c10 := f1 10
  simp only [prCells] at c3 c8 c10
  simp at c3 c8 c10
  rw [hph] at c3
  by_cases hm : 0 ≤ p.met
  · have HP : Hid (PutB w (w.setCell ⟨pb, 3, none⟩ (I 7)) pb (prCells (waitPr p)) 109) := by
      have e : waitPr p = { p with phase := 7 } := by unfold waitPr; rw [if_pos hm]
      rw [e]; exact (PutB.refl hb).set 3 (I 7)
    clear f1 hph hb
    go_enter Tryz.func61, Tryz.ntmps61
    go_wp2
    go_end0
    exact ⟨rfl, HP.out⟩
  · have hd : decide (0 ≤ p.met) = false := by simpa using hm
    by_cases hq : 0 < p.pat
    · have HP : Hid (PutB w (w.setCell ⟨pb, 8, none⟩ (I (p.pat - 1))) pb (prCells (waitPr p)) 109) := by
        have e : waitPr p = { p with pat := p.pat - 1 } := by unfold waitPr; rw [if_neg hm, if_pos hq]
        rw [e]; exact (PutB.refl hb).set 8 (I (p.pat - 1))
      clear f1 hph hb
      go_enter Tryz.func61, Tryz.ntmps61
      go_wp2
      go_end0
      exact ⟨rfl, HP.out⟩
    · have hd2 : decide (0 < p.pat) = false := by simpa using hq
      have HP : Hid (PutB w (w.setCell ⟨pb, 3, none⟩ (I 10)) pb (prCells (waitPr p)) 109) := by
        have e : waitPr p = { p with phase := 10 } := by unfold waitPr; rw [if_neg hm, if_neg hq]
        rw [e]; exact (PutB.refl hb).set 3 (I 10)
      clear f1 hph hb
      go_enter Tryz.func61, Tryz.ntmps61
      go_wp2
      go_end0
      exact ⟨rfl, HP.out⟩

set_option maxHeartbeats 2000000 in
set_option maxRecDepth 100000 in
theorem meet_slot_free {w : World} {B : Nat} {L : Lay} (h : RefRep w B L) {i pb : Nat} {p : Pr} (hp : ProcAt w L i pb p) (hph : p.phase = 4) (draw : Int) (hw : waitsL p.node p.slot L.procs 0 < 0) :
    Calls Tryz.prog 61 #[.pointer (some ⟨L.tb, 0, none⟩), .pointer (some ⟨pb, 0, none⟩), I i, I draw] w fun e w' => e = .returned (.tuple #[]) ∧ PutB w w' pb (prCells { p with phase := 5 }) 109 := by
  have hwt := fun W (hb : Below w.heap.size w W) => waits_c (h.below hb) p.node p.slot
  obtain ⟨f1, f2⟩ := nb_facts hp.blk
  have c3 := f1 3
  have c4 := f1 4
  have c7 := f1 7
  simp only [prCells] at c3 c4 c7
  simp at c3 c4 c7
  rw [hph] at c3
  generalize waitsL p.node p.slot L.procs 0 = wl at *
  have HP : Hid (∀ W, PutB w W pb (prCells p) 109 → PutB w (W.setCell ⟨pb, 3, none⟩ (I 5)) pb (prCells { p with phase := 5 }) 109) := fun W hW => hW.set 3 (I 5)
  have HB : Hid (w.heap[pb]? = some (.cells (prCells p) 109 (0, 0))) := hp.blk
  replace hwt : Hid _ := hwt
  clear h hp f1 hph
  go_enter Tryz.func61, Tryz.ntmps61
  go_wp2_with fail
  go_quiet ((go_at_call 88; exact Calls.quiet_of_same (hwt.out _ (by first | exact (Below.refl _ _).drew | exact Below.drewN' (Below.refl _ _) _ | exact Below.refl _ _))))
  go_wp2
  go_end0
  first
  | exact ⟨rfl, HP.out _ ((PutB.refl HB.out).drewN _)⟩
  | exact ⟨rfl, (HP.out _ (PutB.refl HB.out)).drewN _⟩

def slotPr (p q : Pr) (j : Int) : Pr := if 0 ≤ q.met then { p with phase := 11 } else { p with mind := j, phase := 8 }

set_option maxHeartbeats 2000000 in
set_option maxRecDepth 100000 in
theorem meet_slot_who {w : World} {B : Nat} {L : Lay} (h : RefRep w B L) {i j pb qb : Nat} {p q : Pr} (hp : ProcAt w L i pb p) (hq : ProcAt w L j qb q) (hph : p.phase = 4) (draw : Int) (hw : waitsL p.node p.slot L.procs 0 = (j : Int)) :
    Calls Tryz.prog 61 #[.pointer (some ⟨L.tb, 0, none⟩), .pointer (some ⟨pb, 0, none⟩), I i, I draw] w fun e w' => e = .returned (.tuple #[]) ∧ PutB w w' pb (prCells (slotPr p q j)) 109 := by
  have hwt := fun W (hb : Below w.heap.size w W) => waits_c (h.below hb) p.node p.slot
  rw [hw] at hwt
  obtain ⟨f1, f2⟩ := nb_facts hp.blk
  obtain ⟨g1, _⟩ := nb_facts hq.blk
  have c3 := f1 3
  have c4 := f1 4
  have c7 := f1 7
  have c9 := f1 9
  have q10 := g1 10
  simp only [prCells] at c3 c4 c7 c9 q10
  simp at c3 c4 c7 c9 q10
  rw [hph] at c3
  have k8 := h.pv_cell
  obtain ⟨ao, cap, e1, d1, d2, d3, hx⟩ := h.proc_at
  rw [e1] at k8
  obtain ⟨g, eg, cg⟩ := hx j hq.hi
  have eqb : (L.procs[j]'hq.hi).1 = qb := by
    have := hq.eb
    rw [List.getD_eq_getElem?_getD, List.getElem?_eq_getElem hq.hi] at this
    exact this
  rw [eqb] at cg
  subst eg
  have hjl : (j : Int) < (L.procs.length : Int) := by have := hq.hi; omega
  have hj0 : decide ((j : Int) < 0) = false := by simp
  have HB : Hid (w.heap[pb]? = some (.cells (prCells p) 109 (0, 0))) := hp.blk
  replace hwt : Hid _ := hwt
  unfold maxLen at d2 d3
  clear h hp hq f1 g1 hph hw e1 hx eqb
  generalize L.procs.length = pl at *
  by_cases hm : 0 ≤ q.met
  · have HP : Hid (∀ W, PutB w W pb (prCells p) 109 → PutB w (W.setCell ⟨pb, 3, none⟩ (I 11)) pb (prCells (slotPr p q j)) 109) := by
      have e : slotPr p q j = { p with phase := 11 } := by unfold slotPr; rw [if_pos hm]
      rw [e]; exact fun W hW => hW.set 3 (I 11)
    go_enter Tryz.func61, Tryz.ntmps61
    go_wp2_with fail
    go_quiet ((go_at_call 88; exact Calls.quiet_of_same (hwt.out _ (by first | exact (Below.refl _ _).drew | exact Below.drewN' (Below.refl _ _) _ | exact Below.refl _ _))))
    go_wp2
    go_end0
    first
    | exact ⟨rfl, HP.out _ ((PutB.refl HB.out).drewN _)⟩
    | exact ⟨rfl, (HP.out _ (PutB.refl HB.out)).drewN _⟩
  · have hd : decide (0 ≤ q.met) = false := by simpa using hm
    have HP : Hid (∀ W, PutB w W pb (prCells p) 109 → PutB w ((W.setCell ⟨pb, 9, none⟩ (I j)).setCell ⟨pb, 3, none⟩ (I 8)) pb (prCells (slotPr p q j)) 109) := by
      have e : slotPr p q j = { p with mind := j, phase := 8 } := by unfold slotPr; rw [if_neg hm]
      rw [e]; exact fun W hW => (hW.set 9 (I j)).set 3 (I 8)
    go_enter Tryz.func61, Tryz.ntmps61
    go_wp2_with fail
    go_quiet ((go_at_call 88; exact Calls.quiet_of_same (hwt.out _ (by first | exact (Below.refl _ _).drew | exact Below.drewN' (Below.refl _ _) _ | exact Below.refl _ _))))
    go_wp2
    go_end0
    first
    | exact ⟨rfl, HP.out _ ((PutB.refl HB.out).drewN _)⟩
    | exact ⟨rfl, (HP.out _ (PutB.refl HB.out)).drewN _⟩

theorem ProcAt.slot {w : World} {B : Nat} {L : Lay} (h : RefRep w B L) {j qb : Nat} {q : Pr} (hq : ProcAt w L j qb q) : ∃ g cap, w.cell? ⟨L.tb, 8, none⟩ = some (.slice (some ⟨g, 0, none⟩) L.procs.length cap) ∧ L.procs.length ≤ cap ∧ L.procs.length ≤ maxLen ∧ cap ≤ maxLen ∧ w.cell? ⟨g, j, none⟩ = some (.pointer (some ⟨qb, 0, none⟩)) ∧ g < w.heap.size := by
  have k8 := h.pv_cell
  obtain ⟨ao, cap, e1, d1, d2, d3, hx⟩ := h.proc_at
  rw [e1] at k8
  obtain ⟨g, eg, cg⟩ := hx j hq.hi
  have eqb : (L.procs[j]'hq.hi).1 = qb := by
    have := hq.eb
    rw [List.getD_eq_getElem?_getD, List.getElem?_eq_getElem hq.hi] at this
    exact this
  rw [eqb] at cg
  subst eg
  exact ⟨g, cap, k8, d1, d2, d3, cg, cell_lt cg⟩

set_option maxHeartbeats 2000000 in
set_option maxRecDepth 100000 in
theorem meet_taken {w : World} {B : Nat} {L : Lay} (h : RefRep w B L) {i j pb qb : Nat} {p q : Pr} (hp : ProcAt w L i pb p) (hq : ProcAt w L j qb q) (hne : qb ≠ pb) (hph : p.phase = 7) (hm : p.met = (j : Int)) (hn0 : 0 ≤ p.node) (hn : p.node ≤ 1000000) (draw : Int) :
    Calls Tryz.prog 61 #[.pointer (some ⟨L.tb, 0, none⟩), .pointer (some ⟨pb, 0, none⟩), I i, I draw] w fun e w' => e = .returned (.tuple #[]) ∧ PutB w w' pb (prCells (settledPr { p with met := -1 } q 0)) 109 := by
  obtain ⟨f1, f2⟩ := nb_facts hp.blk
  have c3 := f1 3
  have c10 := f1 10
  simp only [prCells] at c3 c10
  simp at c3 c10
  rw [hph] at c3
  rw [hm] at c10
  obtain ⟨g, cap, k8, d1, d2, d3, cg, lg⟩ := hq.slot h
  have hjl : (j : Int) < (L.procs.length : Int) := by have := hq.hi; omega
  have hj0 : (0 : Int) ≤ (j : Int) := by omega
  have HS : Hid (∀ W, PutB w W pb (prCells p) 109 → Calls Tryz.prog 89 #[.pointer (some ⟨pb, 0, none⟩), .pointer (some ⟨qb, 0, none⟩), I 0] (W.setCell ⟨pb, 10, none⟩ (I (-1))) fun e w' => e = .returned (.tuple #[]) ∧ PutB w w' pb (prCells (settledPr { p with met := -1 } q 0)) 109) := by
    intro W hW
    have h1 : PutB w (W.setCell ⟨pb, 10, none⟩ (I (-1))) pb (prCells { p with met := -1 }) 109 := hW.set 10 (I (-1))
    refine (settled_c (p := { p with met := -1 }) (q := q) h1.blk (by rw [h1.other qb hne]; exact hq.blk) hn0 hn 0 (by omega) (by omega)).mono ?_
    rintro e w' ⟨he, hp'⟩
    exact ⟨he, h1.trans hp'⟩
  have HB : Hid (PutB w w pb (prCells p) 109) := PutB.refl hp.blk
  unfold maxLen at d2 d3
  clear h hp hq f1 hph hm hne
  generalize L.procs.length = pl at *
  go_enter Tryz.func61, Tryz.ntmps61
  go_wp2_with fail
  go_quiet (fail)
  go_wp2_with fail
  first
  | refine (HS.out _ (HB.out.drewN _)).mono ?_
  | (rw [← World.setCell_drewN]; refine (HS.out _ (HB.out.drewN _)).mono ?_)
  rintro e w2 ⟨rfl, hp2⟩
  go_wp2
  go_end0
  exact ⟨rfl, hp2⟩

/-- Between 1 and the configuration's width. -/
def clip (cw z : Int) : Int := if (if cw < z then cw else z) < 1 then 1 else (if cw < z then cw else z)

set_option maxHeartbeats 4000000 in
set_option maxRecDepth 100000 in
theorem meet_grow {w : World} {B : Nat} {L : Lay} (h : RefRep w B L) (hB : B ≤ w.heap.size) {i pb v : Nat} {p : Pr} (hp : ProcAt w L i pb p) (hph : p.phase = 9) (hv : p.node = (v : Int)) (hvl : v < L.past.length) (hll : (L.hist v).length ≤ 1000000000000) (draw : Int) (hw0 : 0 ≤ p.wide) (hw9 : p.wide ≤ 1000) :
    Calls Tryz.prog 61 #[.pointer (some ⟨L.tb, 0, none⟩), .pointer (some ⟨pb, 0, none⟩), I i, I draw] w fun e w' => e = .returned (.tuple #[]) ∧ ∃ x, RefRep w' B (Lay.setP { L with past := L.past.set v (x, (⟨5, clip L.c.width (2 * p.wide), 0, []⟩, .slice none 0 0) :: L.hist v) } i { p with phase := 11 }) ∧ ChgT B [91, 69, 109] w w' := by
  obtain ⟨f1, f2⟩ := nb_facts hp.blk
  have c3 := f1 3
  have c4 := f1 4
  have c6 := f1 6
  simp only [prCells] at c3 c4 c6
  simp at c3 c4 c6
  rw [hph] at c3
  rw [hv] at c4
  have k4 : w.cell? ⟨L.tb, 4, none⟩ = some (I L.c.width) := by rw [block_cell h.tree]; rfl
  have hh := happens_c h hB v hvl hll ⟨5, clip L.c.width (2 * p.wide), 0, []⟩ (.slice none 0 0) (World.ownsRow_nil _ _ _ _)
  have HF : Hid (∀ w1 x, RefRep w1 B { L with past := L.past.set v (x, (⟨5, clip L.c.width (2 * p.wide), 0, []⟩, .slice none 0 0) :: L.hist v) } → ChgT B [91, 69] w w1 →
      (w1.cell? ⟨pb, 3, none⟩ = some (I p.phase) ∧ w1.frozen? ⟨pb, 3, none⟩ = false) ∧ RefRep (w1.setCell ⟨pb, 3, none⟩ (I 11)) B (Lay.setP { L with past := L.past.set v (x, (⟨5, clip L.c.width (2 * p.wide), 0, []⟩, .slice none 0 0) :: L.hist v) } i { p with phase := 11 }) ∧ ChgT B [91, 69, 109] w (w1.setCell ⟨pb, 3, none⟩ (I 11))) := by
    intro w1 x hr1 hc1
    have hb1 := hc1.at hp.blk (by decide)
    obtain ⟨g1, g2⟩ := nb_facts hb1
    have hpa : ProcAt w1 { L with past := L.past.set v (x, (⟨5, clip L.c.width (2 * p.wide), 0, []⟩, .slice none 0 0) :: L.hist v) } i pb p := ⟨hp.hi, hb1, hp.eb, hp.ep⟩
    have hpu : PutB w1 (w1.setCell ⟨pb, 3, none⟩ (I 11)) pb (prCells { p with phase := 11 }) 109 := (PutB.refl hb1).set 3 (I 11)
    obtain ⟨a1, a2⟩ := hpa.put hr1 hpu
    exact ⟨⟨by rw [g1 3]; rfl, g2 3⟩, a1, (hc1.mono (Nat.le_refl _) (by simp)).trans (a2.mono (Nat.le_refl _) (by simp))⟩
  have HCL : Hid (∀ z, clip L.c.width z = if (if L.c.width < z then L.c.width else z) < 1 then 1 else (if L.c.width < z then L.c.width else z)) := fun z => rfl
  rw [hph] at HF
  generalize hcl : clip L.c.width (2 * p.wide) = cl at *
  have hcl2 := HCL.out (2 * p.wide)
  rw [hcl] at hcl2
  have HC2 : Hid (cl = if (if L.c.width < 2 * p.wide then L.c.width else 2 * p.wide) < 1 then 1 else (if L.c.width < 2 * p.wide then L.c.width else 2 * p.wide)) := hcl2
  clear hcl hcl2 HCL h hp f1 f2 hph hv
  generalize L.c.width = cw at *
  by_cases h1 : cw < 2 * p.wide
  · have hx : cl = if cw < 1 then 1 else cw := by rw [HC2.out, if_pos h1]
    by_cases h2 : cw < 1
    · rw [if_pos h2] at hx
      subst hx
      clear HC2
      go_enter Tryz.func61, Tryz.ntmps61
      go_wp2_with fail
      refine hh.mono ?_
      rintro e w1 ⟨rfl, ⟨x, hr1⟩, hc1⟩
      obtain ⟨⟨z1, z2⟩, z3⟩ := HF.out w1 x hr1 hc1
      replace z3 : Hid _ := z3
      clear hr1 hc1 HF hh
      go_wp2
      go_end0
      exact ⟨rfl, x, z3.out⟩
    · have hd2 : decide (cw < 1) = false := by simpa using h2
      rw [if_neg h2] at hx
      subst hx
      clear HC2
      go_enter Tryz.func61, Tryz.ntmps61
      go_wp2_with fail
      refine hh.mono ?_
      rintro e w1 ⟨rfl, ⟨x, hr1⟩, hc1⟩
      obtain ⟨⟨z1, z2⟩, z3⟩ := HF.out w1 x hr1 hc1
      replace z3 : Hid _ := z3
      clear hr1 hc1 HF hh
      go_wp2
      go_end0
      exact ⟨rfl, x, z3.out⟩
  · have hd1 : decide (cw < 2 * p.wide) = false := by simpa using h1
    have hx : cl = if 2 * p.wide < 1 then 1 else 2 * p.wide := by rw [HC2.out, if_neg h1]
    by_cases h2 : 2 * p.wide < 1
    · rw [if_pos h2] at hx
      subst hx
      clear HC2
      go_enter Tryz.func61, Tryz.ntmps61
      go_wp2_with fail
      refine hh.mono ?_
      rintro e w1 ⟨rfl, ⟨x, hr1⟩, hc1⟩
      obtain ⟨⟨z1, z2⟩, z3⟩ := HF.out w1 x hr1 hc1
      replace z3 : Hid _ := z3
      clear hr1 hc1 HF hh
      go_wp2
      go_end0
      exact ⟨rfl, x, z3.out⟩
    · have hd2 : decide (2 * p.wide < 1) = false := by simpa using h2
      rw [if_neg h2] at hx
      subst hx
      clear HC2
      go_enter Tryz.func61, Tryz.ntmps61
      go_wp2_with fail
      refine hh.mono ?_
      rintro e w1 ⟨rfl, ⟨x, hr1⟩, hc1⟩
      obtain ⟨⟨z1, z2⟩, z3⟩ := HF.out w1 x hr1 hc1
      replace z3 : Hid _ := z3
      clear hr1 hc1 HF hh
      go_wp2
      go_end0
      exact ⟨rfl, x, z3.out⟩

set_option maxHeartbeats 4000000 in
set_option maxRecDepth 100000 in
theorem meet_shrink {w : World} {B : Nat} {L : Lay} (h : RefRep w B L) (hB : B ≤ w.heap.size) {i pb v : Nat} {p : Pr} (hp : ProcAt w L i pb p) (hph : p.phase = 10) (hv : p.node = (v : Int)) (hvl : v < L.past.length) (hll : (L.hist v).length ≤ 1000000000000) (draw : Int) (hw0 : 0 ≤ p.wide) (hw9 : p.wide ≤ 1000) :
    Calls Tryz.prog 61 #[.pointer (some ⟨L.tb, 0, none⟩), .pointer (some ⟨pb, 0, none⟩), I i, I draw] w fun e w' => e = .returned (.tuple #[]) ∧ ∃ x, RefRep w' B (Lay.setP { L with past := L.past.set v (x, (⟨5, clip L.c.width (p.wide / 2), 0, []⟩, .slice none 0 0) :: L.hist v) } i { p with phase := 11 }) ∧ ChgT B [91, 69, 109] w w' := by
  obtain ⟨f1, f2⟩ := nb_facts hp.blk
  have c3 := f1 3
  have c4 := f1 4
  have c6 := f1 6
  simp only [prCells] at c3 c4 c6
  simp at c3 c4 c6
  rw [hph] at c3
  rw [hv] at c4
  have k4 : w.cell? ⟨L.tb, 4, none⟩ = some (I L.c.width) := by rw [block_cell h.tree]; rfl
  have hh := happens_c h hB v hvl hll ⟨5, clip L.c.width (p.wide / 2), 0, []⟩ (.slice none 0 0) (World.ownsRow_nil _ _ _ _)
  have HF : Hid (∀ w1 x, RefRep w1 B { L with past := L.past.set v (x, (⟨5, clip L.c.width (p.wide / 2), 0, []⟩, .slice none 0 0) :: L.hist v) } → ChgT B [91, 69] w w1 →
      (w1.cell? ⟨pb, 3, none⟩ = some (I p.phase) ∧ w1.frozen? ⟨pb, 3, none⟩ = false) ∧ RefRep (w1.setCell ⟨pb, 3, none⟩ (I 11)) B (Lay.setP { L with past := L.past.set v (x, (⟨5, clip L.c.width (p.wide / 2), 0, []⟩, .slice none 0 0) :: L.hist v) } i { p with phase := 11 }) ∧ ChgT B [91, 69, 109] w (w1.setCell ⟨pb, 3, none⟩ (I 11))) := by
    intro w1 x hr1 hc1
    have hb1 := hc1.at hp.blk (by decide)
    obtain ⟨g1, g2⟩ := nb_facts hb1
    have hpa : ProcAt w1 { L with past := L.past.set v (x, (⟨5, clip L.c.width (p.wide / 2), 0, []⟩, .slice none 0 0) :: L.hist v) } i pb p := ⟨hp.hi, hb1, hp.eb, hp.ep⟩
    have hpu : PutB w1 (w1.setCell ⟨pb, 3, none⟩ (I 11)) pb (prCells { p with phase := 11 }) 109 := (PutB.refl hb1).set 3 (I 11)
    obtain ⟨a1, a2⟩ := hpa.put hr1 hpu
    exact ⟨⟨by rw [g1 3]; rfl, g2 3⟩, a1, (hc1.mono (Nat.le_refl _) (by simp)).trans (a2.mono (Nat.le_refl _) (by simp))⟩
  have HCL : Hid (∀ z, clip L.c.width z = if (if L.c.width < z then L.c.width else z) < 1 then 1 else (if L.c.width < z then L.c.width else z)) := fun z => rfl
  rw [hph] at HF
  generalize hcl : clip L.c.width (p.wide / 2) = cl at *
  have hcl2 := HCL.out (p.wide / 2)
  rw [hcl] at hcl2
  have HC2 : Hid (cl = if (if L.c.width < p.wide / 2 then L.c.width else p.wide / 2) < 1 then 1 else (if L.c.width < p.wide / 2 then L.c.width else p.wide / 2)) := hcl2
  clear hcl hcl2 HCL h hp f1 f2 hph hv
  generalize L.c.width = cw at *
  by_cases h1 : cw < p.wide / 2
  · have hx : cl = if cw < 1 then 1 else cw := by rw [HC2.out, if_pos h1]
    by_cases h2 : cw < 1
    · rw [if_pos h2] at hx
      subst hx
      clear HC2
      go_enter Tryz.func61, Tryz.ntmps61
      go_wp2_with fail
      refine hh.mono ?_
      rintro e w1 ⟨rfl, ⟨x, hr1⟩, hc1⟩
      obtain ⟨⟨z1, z2⟩, z3⟩ := HF.out w1 x hr1 hc1
      replace z3 : Hid _ := z3
      clear hr1 hc1 HF hh
      go_wp2
      go_end0
      exact ⟨rfl, x, z3.out⟩
    · have hd2 : decide (cw < 1) = false := by simpa using h2
      rw [if_neg h2] at hx
      subst hx
      clear HC2
      go_enter Tryz.func61, Tryz.ntmps61
      go_wp2_with fail
      refine hh.mono ?_
      rintro e w1 ⟨rfl, ⟨x, hr1⟩, hc1⟩
      obtain ⟨⟨z1, z2⟩, z3⟩ := HF.out w1 x hr1 hc1
      replace z3 : Hid _ := z3
      clear hr1 hc1 HF hh
      go_wp2
      go_end0
      exact ⟨rfl, x, z3.out⟩
  · have hd1 : decide (cw < p.wide / 2) = false := by simpa using h1
    have hx : cl = if p.wide / 2 < 1 then 1 else p.wide / 2 := by rw [HC2.out, if_neg h1]
    by_cases h2 : p.wide / 2 < 1
    · rw [if_pos h2] at hx
      subst hx
      clear HC2
      go_enter Tryz.func61, Tryz.ntmps61
      go_wp2_with fail
      refine hh.mono ?_
      rintro e w1 ⟨rfl, ⟨x, hr1⟩, hc1⟩
      obtain ⟨⟨z1, z2⟩, z3⟩ := HF.out w1 x hr1 hc1
      replace z3 : Hid _ := z3
      clear hr1 hc1 HF hh
      go_wp2
      go_end0
      exact ⟨rfl, x, z3.out⟩
    · have hd2 : decide (p.wide / 2 < 1) = false := by simpa using h2
      rw [if_neg h2] at hx
      subst hx
      clear HC2
      go_enter Tryz.func61, Tryz.ntmps61
      go_wp2_with fail
      refine hh.mono ?_
      rintro e w1 ⟨rfl, ⟨x, hr1⟩, hc1⟩
      obtain ⟨⟨z1, z2⟩, z3⟩ := HF.out w1 x hr1 hc1
      replace z3 : Hid _ := z3
      clear hr1 hc1 HF hh
      go_wp2
      go_end0
      exact ⟨rfl, x, z3.out⟩

/-- Does who is kept in mind still wait in the slot, and was not met? -/
def meets (L : Lay) (p q : Pr) : Bool := decide (waitsL p.node p.slot L.procs 0 = p.mind) && decide (q.phase = 6) && decide (q.met < 0)

set_option maxHeartbeats 4000000 in
set_option maxRecDepth 100000 in
theorem meet_no {w : World} {B : Nat} {L : Lay} (h : RefRep w B L) {i j pb qb : Nat} {p q : Pr} (hp : ProcAt w L i pb p) (hq : ProcAt w L j qb q) (hne : qb ≠ pb) (hph : p.phase = 8) (hm : p.mind = (j : Int)) (hno : meets L p q = false) (draw : Int) :
    Calls Tryz.prog 61 #[.pointer (some ⟨L.tb, 0, none⟩), .pointer (some ⟨pb, 0, none⟩), I i, I draw] w fun e w' => e = .returned (.tuple #[]) ∧ PutB w w' pb (prCells { p with phase := 9 }) 109 := by
  have hwt := fun W (hb : Below w.heap.size w W) => waits_c (h.below hb) p.node p.slot
  obtain ⟨f1, f2⟩ := nb_facts hp.blk
  obtain ⟨g1, _⟩ := nb_facts hq.blk
  have c3 := f1 3
  have c4 := f1 4
  have c7 := f1 7
  have c9 := f1 9
  have q3 := g1 3
  have q10 := g1 10
  simp only [prCells] at c3 c4 c7 c9 q3 q10
  simp at c3 c4 c7 c9 q3 q10
  rw [hph] at c3
  obtain ⟨g, cap, k8, d1, d2, d3, cg, lg⟩ := hq.slot h
  have hjl : (j : Int) < (L.procs.length : Int) := by have := hq.hi; omega
  have hj0 : (0 : Int) ≤ (j : Int) := by omega
  unfold meets at hno
  rw [hm] at c9 hno
  have HP : Hid (∀ W : World, PutB w W pb (prCells p) 109 → PutB w (W.setCell ⟨pb, 3, none⟩ (I 9)) pb (prCells { p with phase := 9 }) 109) := fun W hW => hW.set 3 (I 9)
  have HB : Hid (w.heap[pb]? = some (.cells (prCells p) 109 (0, 0))) := hp.blk
  have HQ : Hid (w.heap[qb]? = some (.cells (prCells q) 109 (0, 0))) := hq.blk
  have HF : Hid (∀ W : World, W.heap[pb]? = some (.cells (prCells p) 109 (0, 0)) → W.heap[qb]? = some (.cells (prCells q) 109 (0, 0)) → W.cell? ⟨pb, 3, none⟩ = some (I 8) ∧ W.cell? ⟨pb, 4, none⟩ = some (I p.node) ∧ W.cell? ⟨pb, 7, none⟩ = some (I p.slot) ∧ W.cell? ⟨pb, 9, none⟩ = some (I j) ∧ W.cell? ⟨qb, 3, none⟩ = some (I q.phase) ∧ W.cell? ⟨qb, 10, none⟩ = some (I q.met) ∧ (∀ k, W.frozen? ⟨pb, k, none⟩ = false)) := by
    intro W a1 a2
    obtain ⟨x1, x2⟩ := nb_facts a1
    obtain ⟨y1, _⟩ := nb_facts a2
    refine ⟨by rw [x1, ← hph]; rfl, by rw [x1]; rfl, by rw [x1]; rfl, by rw [x1, ← hm]; rfl, by rw [y1]; rfl, by rw [y1]; rfl, x2⟩
  replace hwt : Hid _ := hwt
  have hcase : ((waitsL p.node p.slot L.procs 0 == (j : Int)) = false) ∨ ((waitsL p.node p.slot L.procs 0 == (j : Int)) = true ∧ (q.phase == 6) = false) ∨ ((waitsL p.node p.slot L.procs 0 == (j : Int)) = true ∧ (q.phase == 6) = true ∧ decide (q.met < 0) = false) := by
    simp only [Bool.and_eq_false_iff, decide_eq_false_iff_not] at hno
    simp only [beq_eq_false_iff_ne, beq_iff_eq, decide_eq_false_iff_not, ne_eq]
    by_cases a1 : waitsL p.node p.slot L.procs 0 = (j : Int)
    · by_cases a2 : q.phase = 6
      · right; right; refine ⟨a1, a2, ?_⟩
        rcases hno with (h' | h') | h'
        · exact absurd a1 h'
        · exact absurd a2 h'
        · exact h'
      · right; left; exact ⟨a1, a2⟩
    · left; exact a1
  unfold maxLen at d2 d3
  clear h hp hq f1 g1 hph hm hno
  generalize waitsL p.node p.slot L.procs 0 = wl at *
  generalize L.procs.length = pl at *
  rcases hcase with b1 | ⟨b1, b2⟩ | ⟨b1, b2, b3⟩
  all_goals
    go_enter Tryz.func61, Tryz.ntmps61
    go_wp2_with fail
    go_quiet (fail)
    have hw1 := (PutB.refl HB.out).drewN nq
    have hq1 := (hw1.other qb hne).trans HQ.out
    have hb1 : Below w.heap.size w (w.drewN nq) := Below.drewN' (Below.refl _ _) nq
    clear c3 c4 c7 c9 q3 q10 f2 k8 cg
    generalize w.drewN nq = wq at *
    obtain ⟨c3, c4, c7, c9, q3, q10, f2⟩ := HF.out wq hw1.blk hq1
    have HW1 : Hid _ := hw1
    have HB1 : Hid _ := hb1
    clear hw1 hb1 hq1
    go_wp2_with fail
    go_quiet ((go_at_call 88; exact Calls.quiet_of_same (hwt.out _ (by first | exact HB1.out.drew | exact Below.drewN' HB1.out _ | exact HB1.out))))
    go_wp2
    go_end0
    first
    | exact ⟨rfl, HP.out _ (HW1.out.drewN _)⟩
    | exact ⟨rfl, (HP.out _ HW1.out).drewN _⟩

theorem ProcAt.ne {w : World} {L : Lay} {i j pb qb : Nat} {p q : Pr} (hp : ProcAt w L i pb p) (hq : ProcAt w L j qb q) (hne : qb ≠ pb) : j ≠ i := by
  intro e
  subst e
  have a := hp.eb
  have b := hq.eb
  rw [List.getD_eq_getElem?_getD, List.getElem?_eq_getElem hp.hi] at a b
  exact hne (b.symm.trans a)

/-- A process stays where it is when it or another is written. -/
theorem ProcAt.setP {w w' : World} {L : Lay} {i j pb qb : Nat} {p p' q : Pr} (hp : ProcAt w L i pb p) (hq : ProcAt w L j qb q) (hne : qb ≠ pb) {T : TypeId} (hw : PutB w w' pb (prCells p') T) : ProcAt w' (L.setP i p') j qb q := by
  have hji := hp.ne hq hne
  refine ⟨by simpa using hq.hi, (hw.other qb hne).trans hq.blk, ?_, ?_⟩
  · have := hq.eb
    simp only [List.getD_eq_getElem?_getD] at this ⊢
    rw [List.getElem?_set_ne (Ne.symm hji)]
    exact this
  · have := hq.ep
    simp only [List.getD_eq_getElem?_getD] at this ⊢
    rw [List.getElem?_set_ne (Ne.symm hji)]
    exact this

theorem ProcAt.setP_self {w w' : World} {L : Lay} {i pb : Nat} {p p' : Pr} (hp : ProcAt w L i pb p) (hw : PutB w w' pb (prCells p') 109) : ProcAt w' (L.setP i p') i pb p' := by
  have hi := hp.hi
  have hb := hp.eb
  refine ⟨by simpa using hi, hw.blk, ?_, ?_⟩
  · simp only [List.getD_eq_getElem?_getD] at hb ⊢
    rw [List.getElem?_set_self hi]
    rw [List.getElem?_eq_getElem hi] at hb ⊢
    exact hb
  · simp only [List.getD_eq_getElem?_getD]
    rw [List.getElem?_set_self hi]
    rfl

theorem Lay.setP_twice {w : World} {L : Lay} {i j pb qb : Nat} {p q : Pr} (hp : ProcAt w L i pb p) (hq : ProcAt w L j qb q) (hji : j ≠ i) (a b c : Pr) : ((L.setP i a).setP j b).setP i c = (L.setP j b).setP i c := by
  have hi := hp.hi
  have hj := hq.hi
  unfold Lay.setP
  simp only [List.getD_eq_getElem?_getD]
  congr 1
  apply List.ext_getElem?
  intro k
  by_cases e1 : k = i
  · subst e1
    rw [List.getElem?_set_self (by simpa using hi), List.getElem?_set_self (by simpa using hi)]
    rw [List.getElem?_set_ne hji, List.getElem?_set_self hi, List.getElem?_set_ne hji]
    rw [List.getElem?_eq_getElem hi]
    rfl
  · rw [List.getElem?_set_ne (Ne.symm e1), List.getElem?_set_ne (Ne.symm e1)]
    by_cases e2 : k = j
    · subst e2
      rw [List.getElem?_set_self (by simpa using hj), List.getElem?_set_self hj, List.getElem?_set_ne (Ne.symm hji)]
    · rw [List.getElem?_set_ne (Ne.symm e2), List.getElem?_set_ne (Ne.symm e2), List.getElem?_set_ne (Ne.symm e1)]

set_option maxHeartbeats 4000000 in
set_option maxRecDepth 100000 in
theorem meet_yes {w : World} {B : Nat} {L : Lay} (h : RefRep w B L) {i j pb qb : Nat} {p q : Pr} (hp : ProcAt w L i pb p) (hq : ProcAt w L j qb q) (hne : qb ≠ pb) (hph : p.phase = 8) (hm : p.mind = (j : Int)) (hno : meets L p q = true) (hn0 : 0 ≤ p.node) (hn : p.node ≤ 1000000) (draw : Int) :
    Calls Tryz.prog 61 #[.pointer (some ⟨L.tb, 0, none⟩), .pointer (some ⟨pb, 0, none⟩), I i, I draw] w fun e w' => e = .returned (.tuple #[]) ∧ RefRep w' B ((L.setP j { q with met := i }).setP i (settledPr { p with phase := 9 } { q with met := i } 1)) ∧ ChgT B [109] w w' := by
  have hwt := fun W (hb : Below w.heap.size w W) => waits_c (h.below hb) p.node p.slot
  have hji := hp.ne hq hne
  obtain ⟨f1, f2⟩ := nb_facts hp.blk
  obtain ⟨g1, _⟩ := nb_facts hq.blk
  have c3 := f1 3
  have c4 := f1 4
  have c7 := f1 7
  have c9 := f1 9
  have q3 := g1 3
  have q10 := g1 10
  simp only [prCells] at c3 c4 c7 c9 q3 q10
  simp at c3 c4 c7 c9 q3 q10
  rw [hph] at c3
  obtain ⟨g, cap, k8, d1, d2, d3, cg, lg⟩ := hq.slot h
  have hjl : (j : Int) < (L.procs.length : Int) := by have := hq.hi; omega
  have hj0 : (0 : Int) ≤ (j : Int) := by omega
  unfold meets at hno
  rw [hm] at c9 hno
  have HS : Hid (∀ W, PutB w W pb (prCells p) 109 → Calls Tryz.prog 89 #[.pointer (some ⟨pb, 0, none⟩), .pointer (some ⟨qb, 0, none⟩), I 1] ((W.setCell ⟨pb, 3, none⟩ (I 9)).setCell ⟨qb, 10, none⟩ (I i)) fun e w' => e = .returned (.tuple #[]) ∧ RefRep w' B ((L.setP j { q with met := i }).setP i (settledPr { p with phase := 9 } { q with met := i } 1)) ∧ ChgT B [109] w w') := by
    intro W hW
    have h1 : PutB w (W.setCell ⟨pb, 3, none⟩ (I 9)) pb (prCells { p with phase := 9 }) 109 := hW.set 3 (I 9)
    obtain ⟨r1, k1⟩ := hp.put h h1
    have hq1 := hp.setP hq hne h1
    have hp1 := hp.setP_self h1
    generalize W.setCell ⟨pb, 3, none⟩ (I 9) = W1 at *
    have h2 : PutB W1 (W1.setCell ⟨qb, 10, none⟩ (I i)) qb (prCells { q with met := i }) 109 := (PutB.refl hq1.blk).set 10 (I i)
    obtain ⟨r2, k2⟩ := hq1.put r1 h2
    have hp2 := hq1.setP hp1 hne.symm h2
    have hq2 := hq1.setP_self h2
    generalize W1.setCell ⟨qb, 10, none⟩ (I i) = W2 at *
    refine (settled_c hp2.blk hq2.blk hn0 hn 1 (by omega) (by omega)).mono ?_
    rintro e w' ⟨he, hp'⟩
    obtain ⟨r3, k3⟩ := hp2.put r2 hp'
    rw [Lay.setP_twice hp hq hji] at r3
    exact ⟨he, r3, (k1.trans k2).trans k3⟩
  have HB : Hid (w.heap[pb]? = some (.cells (prCells p) 109 (0, 0))) := hp.blk
  have HQ : Hid (w.heap[qb]? = some (.cells (prCells q) 109 (0, 0))) := hq.blk
  have HF : Hid (∀ W : World, W.heap[pb]? = some (.cells (prCells p) 109 (0, 0)) → W.heap[qb]? = some (.cells (prCells q) 109 (0, 0)) → W.cell? ⟨pb, 3, none⟩ = some (I 8) ∧ W.cell? ⟨pb, 4, none⟩ = some (I p.node) ∧ W.cell? ⟨pb, 7, none⟩ = some (I p.slot) ∧ W.cell? ⟨pb, 9, none⟩ = some (I j) ∧ W.cell? ⟨qb, 3, none⟩ = some (I q.phase) ∧ W.cell? ⟨qb, 10, none⟩ = some (I q.met) ∧ (∀ k, W.frozen? ⟨pb, k, none⟩ = false) ∧ (∀ k, W.frozen? ⟨qb, k, none⟩ = false)) := by
    intro W a1 a2
    obtain ⟨x1, x2⟩ := nb_facts a1
    obtain ⟨y1, y2⟩ := nb_facts a2
    refine ⟨by rw [x1, ← hph]; rfl, by rw [x1]; rfl, by rw [x1]; rfl, by rw [x1, ← hm]; rfl, by rw [y1]; rfl, by rw [y1]; rfl, x2, y2⟩
  replace hwt : Hid _ := hwt
  simp only [Bool.and_eq_true, decide_eq_true_eq] at hno
  obtain ⟨⟨a1, a2⟩, a3⟩ := hno
  have b1 : (waitsL p.node p.slot L.procs 0 == (j : Int)) = true := by simp [a1]
  have b2 : (q.phase == 6) = true := by simp [a2]
  have b3 : decide (q.met < 0) = true := by simp [a3]
  unfold maxLen at d2 d3
  clear h hp hq f1 g1 hph hm a1 a2 a3
  generalize waitsL p.node p.slot L.procs 0 = wl at *
  go_enter Tryz.func61, Tryz.ntmps61
  go_wp2_with fail
  go_quiet (fail)
  have hw1 := (PutB.refl HB.out).drewN nq
  have hq1 := (hw1.other qb hne).trans HQ.out
  have hb1 : Below w.heap.size w (w.drewN nq) := Below.drewN' (Below.refl _ _) nq
  clear c3 c4 c7 c9 q3 q10 f2 k8 cg
  generalize w.drewN nq = wq at *
  obtain ⟨c3, c4, c7, c9, q3, q10, f2, f3⟩ := HF.out wq hw1.blk hq1
  have HW1 : Hid _ := hw1
  have HB1 : Hid _ := hb1
  clear hw1 hb1 hq1
  have hne2 := hne.symm
  go_wp2_with fail
  go_quiet ((go_at_call 88; exact Calls.quiet_of_same (hwt.out _ (by first | exact HB1.out.drew | exact Below.drewN' HB1.out _ | exact HB1.out))))
  go_wp2_with fail
  first
  | refine (HS.out _ (HW1.out.drewN _)).mono ?_
  | refine (HS.out _ HW1.out).mono ?_
  | trace_state
  rintro e w2 ⟨rfl, hp2⟩
  go_wp2
  go_end0
  exact ⟨rfl, hp2⟩

theorem ProcAt.below {w w' : World} {L : Lay} {i pb : Nat} {p : Pr} (hp : ProcAt w L i pb p) (hb : Below w.heap.size w w') : ProcAt w' L i pb p := by
  refine ⟨hp.hi, ?_, hp.eb, hp.ep⟩
  rw [hb.block pb (by
    rcases Nat.lt_or_ge pb w.heap.size with h | h
    · exact h
    · have := hp.blk
      rw [Array.getElem?_eq_none h] at this
      simp at this)]
  exact hp.blk

/-- Behind a call that reads, one field of a process is written. -/
theorem ProcAt.wrote {w w1 w' : World} {B : Nat} {L : Lay} {i pb : Nat} {p p' : Pr} (hp : ProcAt w L i pb p) (h : RefRep w B L) (hb : Below w.heap.size w w1) (hw : PutB w1 w' pb (prCells p') 109) : RefRep w' B (L.setP i p') ∧ ChgT B [109] w w' := by
  obtain ⟨a, b⟩ := (hp.below hb).put (h.below hb) hw
  exact ⟨a, (ChgT.of_below hb).trans b⟩

/-- Where an Inc, a Put or a Get goes from Look. -/
def lookPr (L : Lay) (v : Nat) (p : Pr) : Pr := { p with phase := if shutL p.node L.procs = true then 2 else if formH (L.hist v) = 1 then 3 else 12 }

set_option maxHeartbeats 4000000 in
set_option maxRecDepth 100000 in
theorem look_walk {w : World} {B : Nat} {L : Lay} (h : RefRep w B L) {i pb v : Nat} {p : Pr} (hp : ProcAt w L i pb p) (hv : p.node = (v : Int)) (hvl : v < L.past.length) (hk : p.kind < 3) :
    Calls Tryz.prog 55 #[.pointer (some ⟨L.tb, 0, none⟩), .pointer (some ⟨pb, 0, none⟩)] w fun e w' => e = .returned (.tuple #[]) ∧ RefRep w' B (L.setP i (lookPr L v p)) ∧ ChgT B [109] w w' := by
  have hs := shut_c h p.node
  have hf := form_c h v hvl
  have hc := changes_c ⟨p.kind, p.oval, p.onode⟩ w
  have hch : isChange ⟨p.kind, p.oval, p.onode⟩ = false := by
    unfold isChange
    have a1 : ¬ (p.kind = 3) := by omega
    have a2 : ¬ (p.kind = 4) := by omega
    simp [a1, a2]
  rw [hch] at hc
  unfold opV at hc
  obtain ⟨f1, f2⟩ := nb_facts hp.blk
  have c0 := f1 0
  have c1 := f1 1
  have c2 := f1 2
  have c3 := f1 3
  have c4 := f1 4
  simp only [prCells] at c0 c1 c2 c3 c4
  simp at c0 c1 c2 c3 c4
  rw [hv] at c4 hs
  have HF : Hid (∀ w1 : World, Below w.heap.size w w1 → (w1.cell? ⟨pb, 3, none⟩ = some (I p.phase) ∧ w1.frozen? ⟨pb, 3, none⟩ = false) ∧ ∀ x, RefRep (w1.setCell ⟨pb, 3, none⟩ (I x)) B (L.setP i { p with phase := x }) ∧ ChgT B [109] w (w1.setCell ⟨pb, 3, none⟩ (I x))) := by
    intro w1 hb
    have hp1 := hp.below hb
    obtain ⟨g1, g2⟩ := nb_facts hp1.blk
    refine ⟨⟨by rw [g1 3]; rfl, g2 3⟩, fun x => ?_⟩
    exact hp.wrote h hb ((PutB.refl hp1.blk).set 3 (I x))
  have HL : Hid (lookPr L v p = { p with phase := if shutL p.node L.procs = true then 2 else if formH (L.hist v) = 1 then 3 else 12 }) := rfl
  rw [hv] at HL HF
  generalize lookPr L v p = lp at *
  generalize shutL (v : Int) L.procs = sh at *
  generalize formH (L.hist v) = fo at *
  clear h hp f1 hv hch hk
  replace hc : Hid _ := hc
  cases sh
  · by_cases h1 : fo = 1
    · have hx := HL.out
      simp only [h1, if_true, Bool.false_eq_true, if_false] at hx
      subst h1
      clear HL
      go_enter Tryz.func55, Tryz.ntmps55
      go_wp2_with fail
      refine hs.mono ?_
      rintro e w1 ⟨rfl, rfl⟩
      clear hs
      go_wp2_with fail
      refine hf.mono ?_
      rintro e w2 ⟨rfl, rfl⟩
      clear hf
      go_wp2_with fail
      refine Calls.mono hc.out ?_
      rintro e w3 ⟨rfl, hb⟩
      obtain ⟨⟨z1, z2⟩, z3⟩ := HF.out w3 hb
      replace z3 : Hid _ := z3
      clear HF hb
      go_wp2
      go_end0
      rw [hx]
      exact ⟨rfl, z3.out _⟩
    · have hx := HL.out
      simp only [h1, Bool.false_eq_true, if_false] at hx
      have hd : (fo == 1) = false := by simpa using h1
      clear HL h1
      go_enter Tryz.func55, Tryz.ntmps55
      go_wp2_with fail
      refine hs.mono ?_
      rintro e w1 ⟨rfl, rfl⟩
      clear hs
      go_wp2_with fail
      refine hf.mono ?_
      rintro e w2 ⟨rfl, rfl⟩
      clear hf
      go_wp2_with fail
      refine Calls.mono hc.out ?_
      rintro e w3 ⟨rfl, hb⟩
      obtain ⟨⟨z1, z2⟩, z3⟩ := HF.out w3 hb
      replace z3 : Hid _ := z3
      clear HF hb
      go_wp2
      go_end0
      rw [hx]
      exact ⟨rfl, z3.out _⟩
  · have hx := HL.out
    simp only [if_true] at hx
    clear HL
    go_enter Tryz.func55, Tryz.ntmps55
    go_wp2_with fail
    refine hs.mono ?_
    rintro e w1 ⟨rfl, rfl⟩
    clear hs
    go_wp2_with fail
    refine hf.mono ?_
    rintro e w2 ⟨rfl, rfl⟩
    clear hf
    go_wp2_with fail
    refine Calls.mono hc.out ?_
    rintro e w3 ⟨rfl, hb⟩
    obtain ⟨⟨z1, z2⟩, z3⟩ := HF.out w3 hb
    replace z3 : Hid _ := z3
    clear HF hb
    go_wp2
    go_end0
    rw [hx]
    exact ⟨rfl, z3.out _⟩

theorem Lay.setP_self {L : Lay} {i : Nat} (hi : i < L.procs.length) (a b : Pr) : (L.setP i a).setP i b = L.setP i b := by
  unfold Lay.setP
  simp only [List.getD_eq_getElem?_getD]
  congr 1
  rw [List.set_set, List.getElem?_set_self hi, List.getElem?_eq_getElem hi]
  rfl

/-- Something has happened at node v. -/
abbrev Lay.hap (L : Lay) (v : Nat) (x : Value) (ev : Ev) (iv : Value) : Lay := { L with past := L.past.set v (x, (ev, iv) :: L.hist v) }

/-- A process is written behind what reads, then an event is appended, then the phase is written. -/
theorem hap_then {w w1 w2 : World} {B : Nat} {L : Lay} (h : RefRep w B L) (hB : B ≤ w.heap.size) {i pb v : Nat} {p p1 : Pr} (hp : ProcAt w L i pb p) (hvl : v < L.past.length) (hll : (L.hist v).length ≤ 1000000000000) (ev : Ev) (he : ev.items = []) (hb : Below w.heap.size w w1) (hw : PutB w1 w2 pb (prCells p1) 109) :
    Calls Tryz.prog 18 #[.pointer (some ⟨L.tb, 0, none⟩), I v, .agg #[I ev.what, I ev.n, I ev.v, .slice none 0 0]] w2 fun e w3 => e = .returned (.tuple #[]) ∧ (w3.cell? ⟨pb, 3, none⟩ = some (I p1.phase) ∧ w3.frozen? ⟨pb, 3, none⟩ = false) ∧ ∀ ph, ∃ x, RefRep (w3.setCell ⟨pb, 3, none⟩ (I ph)) B ((L.hap v x ev (.slice none 0 0)).setP i { p1 with phase := ph }) ∧ ChgT B [91, 69, 109] w (w3.setCell ⟨pb, 3, none⟩ (I ph)) := by
  have hp1 := hp.below hb
  obtain ⟨r1, k1⟩ := hp1.put (h.below hb) hw
  have hp2 := hp1.setP_self hw
  have hs : B ≤ w2.heap.size := by have := hb.size; have := hw.size; omega
  refine (happens_c r1 hs v hvl hll ev (.slice none 0 0) (by rw [he]; exact World.ownsRow_nil _ _ _ _)).mono ?_
  rintro e w3 ⟨e0, ⟨x, r3⟩, k3⟩
  have hb3 := k3.at hp2.blk (by decide)
  obtain ⟨g1, g2⟩ := nb_facts hb3
  refine ⟨e0, ⟨by rw [g1 3]; rfl, g2 3⟩, fun ph => ⟨x, ?_⟩⟩
  have hp3 : ProcAt w3 { L.setP i p1 with past := L.past.set v (x, (ev, .slice none 0 0) :: L.hist v) } i pb p1 := ⟨hp2.hi, hb3, hp2.eb, hp2.ep⟩
  have hpu : PutB w3 (w3.setCell ⟨pb, 3, none⟩ (I ph)) pb (prCells { p1 with phase := ph }) 109 := (PutB.refl hb3).set 3 (I ph)
  obtain ⟨r4, k4⟩ := hp3.put r3 hpu
  refine ⟨?_, ?_⟩
  · have e1 := Lay.setP_self (L := L.hap v x ev (.slice none 0 0)) (i := i) hp.hi p1 { p1 with phase := ph }
    rw [← e1]
    exact r4
  · exact (((ChgT.of_below hb).trans (k1.mono (Nat.le_refl _) (by simp))).trans (k3.mono (Nat.le_refl _) (by simp))).trans (k4.mono (Nat.le_refl _) (by simp))

set_option maxHeartbeats 4000000 in
set_option maxRecDepth 100000 in
theorem leaf_get {w : World} {B : Nat} {L : Lay} (h : RefRep w B L) (hB : B ≤ w.heap.size) {i pb v : Nat} {p : Pr} (hp : ProcAt w L i pb p) (hph : p.phase = 12) (hv : p.node = (v : Int)) (hvl : v < L.past.length) (hll : (L.hist v).length ≤ 1000000000000) (hk : p.kind = 2) :
    Calls Tryz.prog 59 #[.pointer (some ⟨L.tb, 0, none⟩), .pointer (some ⟨pb, 0, none⟩)] w fun e w' => e = .returned (.tuple #[]) ∧ ∃ x, RefRep w' B ((L.hap v x ⟨7, 0, 0, []⟩ (.slice none 0 0)).setP i { p with ticket := manyH 7 (-1) (L.hist v), phase := 14 }) ∧ ChgT B [91, 69, 109] w w' := by
  have hg := gets_c h v hvl
  obtain ⟨f1, f2⟩ := nb_facts hp.blk
  have c0 := f1 0
  have c3 := f1 3
  have c4 := f1 4
  have c11 := f1 11
  simp only [prCells] at c0 c3 c4 c11
  simp at c0 c3 c4 c11
  rw [hph] at c3
  rw [hk] at c0
  rw [hv] at c4
  generalize hmn : manyH 7 (-1) (L.hist v) = mn at *
  have HH : Hid (∀ W, PutB w W pb (prCells p) 109 → _) := fun W (hW : PutB w W pb (prCells p) 109) => hap_then (w2 := W.setCell ⟨pb, 11, none⟩ (I mn)) (p1 := { p with ticket := mn }) h hB hp hvl hll ⟨7, 0, 0, []⟩ rfl (Below.refl _ _) (hW.set 11 (I mn))
  have HB : Hid (PutB w w pb (prCells p) 109) := PutB.refl hp.blk
  clear h hp f1 hph hk hv hmn
  go_enter Tryz.func59, Tryz.ntmps59
  go_wp2_with fail
  refine hg.mono ?_
  rintro e w1 ⟨rfl, rfl⟩
  clear hg
  go_wp2_with fail
  first
  | refine Calls.mono (HH.out _ HB.out) ?_
  | refine Calls.mono (HH.out _ HB.out.drew) ?_
  | trace_state
  rintro e w2 ⟨rfl, ⟨z1, z2⟩, z3⟩
  replace z3 : Hid _ := z3
  clear HH
  go_wp2
  go_end0
  exact ⟨rfl, z3.out _⟩

set_option maxHeartbeats 4000000 in
set_option maxRecDepth 100000 in
theorem leaf_put {w : World} {B : Nat} {L : Lay} (h : RefRep w B L) (hB : B ≤ w.heap.size) {i pb v : Nat} {p : Pr} (hp : ProcAt w L i pb p) (hph : p.phase = 12) (hv : p.node = (v : Int)) (hvl : v < L.past.length) (hll : (L.hist v).length ≤ 1000000000000) (h0 : 0 ≤ (fromH (L.hist v)).1.n) (h9 : (fromH (L.hist v)).1.n ≤ 1000000000000000000) (hkk : manyH 6 (-1) (L.hist v) ≤ 1000000000000000000) (hk : p.kind = 1) :
    Calls Tryz.prog 59 #[.pointer (some ⟨L.tb, 0, none⟩), .pointer (some ⟨pb, 0, none⟩)] w fun e w' => e = .returned (.tuple #[]) ∧ ∃ x, RefRep w' B ((L.hap v x ⟨6, 0, 0, []⟩ (.slice none 0 0)).setP i { p with ticket := putsH (L.hist v), phase := 13 }) ∧ ChgT B [91, 69, 109] w w' := by
  have hg := puts_c h v hvl h0 h9 hkk
  have hmn : (fromH (L.hist v)).1.n + manyH 6 (-1) (L.hist v) = putsH (L.hist v) := rfl
  rw [hmn] at hg
  obtain ⟨f1, f2⟩ := nb_facts hp.blk
  have c0 := f1 0
  have c3 := f1 3
  have c4 := f1 4
  simp only [prCells] at c0 c3 c4
  simp at c0 c3 c4
  rw [hph] at c3
  rw [hk] at c0
  rw [hv] at c4
  generalize putsH (L.hist v) = mn at *
  have HH : Hid (∀ W, Below w.heap.size w W → _) := fun W (hW : Below w.heap.size w W) => hap_then (w2 := W.setCell ⟨pb, 11, none⟩ (I mn)) (p1 := { p with ticket := mn }) h hB hp hvl hll ⟨6, 0, 0, []⟩ rfl hW ((PutB.refl (hp.below hW).blk).set 11 (I mn))
  have HF : Hid (∀ W : World, Below w.heap.size w W → W.cell? ⟨pb, 11, none⟩ = some (I p.ticket) ∧ W.cell? ⟨pb, 3, none⟩ = some (I p.phase) ∧ ∀ k, W.frozen? ⟨pb, k, none⟩ = false) := by
    intro W hW
    obtain ⟨g1, g2⟩ := nb_facts (hp.below hW).blk
    exact ⟨by rw [g1]; rfl, by rw [g1]; rfl, g2⟩
  clear h hp f1 hph hk hv hmn h0 h9 hkk
  go_enter Tryz.func59, Tryz.ntmps59
  go_wp2_with fail
  refine hg.mono ?_
  rintro e w1 ⟨rfl, hb⟩
  obtain ⟨g11, g3, gf⟩ := HF.out w1 hb
  clear hg HF c0 c3 c4 f2
  have HB : Hid _ := hb
  clear hb
  go_wp2_with fail
  refine Calls.mono (HH.out _ HB.out) ?_
  rintro e w2 ⟨rfl, ⟨z1, z2⟩, z3⟩
  replace z3 : Hid _ := z3
  clear HH
  go_wp2
  go_end0
  exact ⟨rfl, z3.out _⟩

set_option maxHeartbeats 4000000 in
set_option maxRecDepth 100000 in
theorem leaf_inc {w : World} {B : Nat} {L : Lay} (h : RefRep w B L) (hB : B ≤ w.heap.size) {i pb v : Nat} {p : Pr} (hp : ProcAt w L i pb p) (hph : p.phase = 12) (hv : p.node = (v : Int)) (hv6 : v < 64) (hvl : v < L.past.length) (hll : (L.hist v).length ≤ 1000000000000) (h0 : 0 ≤ (fromH (L.hist v)).1.n) (h9 : (fromH (L.hist v)).1.n ≤ 100000000000000000) (hkk : manyH 6 (-1) (L.hist v) ≤ 100000000000000000) (hk : p.kind = 0) :
    Calls Tryz.prog 59 #[.pointer (some ⟨L.tb, 0, none⟩), .pointer (some ⟨pb, 0, none⟩)] w fun e w' => e = .returned (.tuple #[]) ∧ ∃ x, RefRep w' B ((L.hap v x ⟨6, 0, 0, []⟩ (.slice none 0 0)).setP i { p with val := rank v + putsH (L.hist v) * 2 ^ (Nat.log2 v), phase := 19 }) ∧ ChgT B [91, 69, 109] w w' := by
  have hg := puts_c h v hvl h0 (by omega) (by omega)
  have hmn : (fromH (L.hist v)).1.n + manyH 6 (-1) (L.hist v) = putsH (L.hist v) := rfl
  have hp0 : 0 ≤ putsH (L.hist v) := by rw [← hmn]; omega
  have hp9 : putsH (L.hist v) ≤ 200000000000000000 := by rw [← hmn]; omega
  rw [hmn] at hg
  have hd := fun W => depth_c v hv6 W
  have hr := fun W => rank_c v hv6 W
  have l5 := log2_le5 v hv6
  obtain ⟨f1, f2⟩ := nb_facts hp.blk
  have c0 := f1 0
  have c3 := f1 3
  have c4 := f1 4
  simp only [prCells] at c0 c3 c4
  simp at c0 c3 c4
  rw [hph] at c3
  rw [hk] at c0
  rw [hv] at c4
  generalize putsH (L.hist v) = mn at *
  have hrk : rank v ≤ 64 := by
    have : ∀ u : Fin 64, rank u.1 ≤ 64 := by decide
    exact this ⟨v, hv6⟩
  generalize rank v = rk at *
  generalize Nat.log2 v = lg at *
  have HH : Hid (∀ W x, Below w.heap.size w W → x = rk + mn * 2 ^ lg → _) := fun W x (hW : Below w.heap.size w W) (hx : x = rk + mn * 2 ^ lg) => hap_then (w2 := (W.setCell ⟨pb, 5, none⟩ (I x)).drew) (p1 := { p with val := rk + mn * 2 ^ lg }) h hB hp hvl hll ⟨6, 0, 0, []⟩ rfl hW (by rw [hx]; exact ((PutB.refl (hp.below hW).blk).set 5 (I (rk + mn * 2 ^ lg))).drew)
  have HF : Hid (∀ W : World, Below w.heap.size w W → W.cell? ⟨pb, 5, none⟩ = some (I p.val) ∧ W.cell? ⟨pb, 3, none⟩ = some (I p.phase) ∧ ∀ k, W.frozen? ⟨pb, k, none⟩ = false) := by
    intro W hW
    obtain ⟨g1, g2⟩ := nb_facts (hp.below hW).blk
    exact ⟨by rw [g1]; rfl, by rw [g1]; rfl, g2⟩
  replace hd : Hid _ := hd
  replace hr : Hid _ := hr
  clear h hp f1 hph hk hv hmn h0 h9 hkk
  have hl : lg = 0 ∨ lg = 1 ∨ lg = 2 ∨ lg = 3 ∨ lg = 4 ∨ lg = 5 := by omega
  rcases hl with rfl | rfl | rfl | rfl | rfl | rfl
  all_goals
    go_enter Tryz.func59, Tryz.ntmps59
    go_wp2_with fail
    refine hg.mono ?_
    rintro e w1 ⟨rfl, hb⟩
    obtain ⟨g11, g3, gf⟩ := HF.out w1 hb
    clear hg HF c0 c3 c4 f2
    have HB : Hid _ := hb
    clear hb
    go_wp2_with fail
    refine Calls.mono (hd.out _) ?_
    rintro e w2 ⟨rfl, rfl⟩
    go_wp2_with fail
    go_region_with (go_at_call 81; refine Calls.mono (hr.out _) ?_; rintro e w2 ⟨rfl, rfl⟩)
    all_goals
      go_wp2_with fail
      refine Calls.mono (HH.out _ _ HB.out (by omega)) ?_
      rintro e w2 ⟨rfl, ⟨z1, z2⟩, z3⟩
      replace z3 : Hid _ := z3
      clear HH
      go_wp2
      go_end0
      exact ⟨rfl, z3.out _⟩

/-- How many items the leaf v can hold. -/
def roomOf (c : Conf) (v : Nat) : Int := c.slots * 2 ^ (c.depth.toNat - Nat.log2 v)

/-- Whether what is to be stored under the ticket has room. -/
def roomyH (c : Conf) (v : Nat) (l : Hist) (t : Int) : Bool := decide (t < roomOf c v) || takenH l (t - roomOf c v)

set_option maxHeartbeats 8000000 in
set_option maxRecDepth 100000 in
theorem leaf_store_yes {w : World} {B : Nat} {L : Lay} (h : RefRep w B L) (hB : B ≤ w.heap.size) {i pb v : Nat} {p : Pr} (hp : ProcAt w L i pb p) (hph : p.phase = 13) (hv : p.node = (v : Int)) (hv6 : v < 64) (hvl : v < L.past.length) (hll : (L.hist v).length ≤ 1000000000000)
    (hs0 : 0 ≤ L.c.slots) (hs4 : L.c.slots ≤ 4) (hd0 : 0 ≤ L.c.depth) (hd4 : L.c.depth ≤ 4) (hld : (Nat.log2 v : Int) ≤ L.c.depth) (ht0 : 0 ≤ p.ticket) (ht9 : p.ticket ≤ 1000000000000) (hr : roomyH L.c v (L.hist v) p.ticket = true) :
    Calls Tryz.prog 59 #[.pointer (some ⟨L.tb, 0, none⟩), .pointer (some ⟨pb, 0, none⟩)] w fun e w' => e = .returned (.tuple #[]) ∧
      ∃ x, RefRep w' B ((L.hap v x ⟨8, p.ticket, p.oval, []⟩ (.slice none 0 0)).setP i { p with phase := 19 }) ∧ ChgT B [91, 69, 109] w w' := by
  have hg := fun W (hb : Below w.heap.size w W) t => taken_c (h.below hb) v hvl t
  have hd := fun W => depth_c v hv6 W
  have k1 : w.cell? ⟨L.tb, 1, none⟩ = some (I L.c.depth) := by rw [block_cell h.tree]; rfl
  have k3 : w.cell? ⟨L.tb, 3, none⟩ = some (I L.c.slots) := by rw [block_cell h.tree]; rfl
  obtain ⟨f1, f2⟩ := nb_facts hp.blk
  have c0 := f1 0
  have c1 := f1 1
  have c3 := f1 3
  have c4 := f1 4
  have c11 := f1 11
  simp only [prCells] at c0 c1 c3 c4 c11
  simp at c0 c1 c3 c4 c11
  rw [hph] at c3
  rw [hv] at c4
  have HH : Hid (∀ W, PutB w W pb (prCells p) 109 → _) := fun W (hW : PutB w W pb (prCells p) 109) => hap_then (w2 := W) (p1 := p) h hB hp hvl hll ⟨8, p.ticket, p.oval, []⟩ rfl (Below.refl _ _) hW
  have HB : Hid (PutB w w pb (prCells p) 109) := PutB.refl hp.blk
  obtain ⟨d, hdd⟩ := Int.eq_ofNat_of_zero_le hd0
  have hdn : L.c.depth.toNat = d := by omega
  unfold roomyH roomOf at hr
  rw [hdn] at hr
  rw [hdd] at k1 hld hd4
  have hl5 : Nat.log2 v ≤ d := by omega
  generalize Nat.log2 v = lg at *
  generalize hsl : L.c.slots = sl at *
  clear h hp f1 hph hv hdd hdn hd0 hll hsl hld
  replace hg : Hid _ := hg
  have hk : ∃ k : Nat, d = lg + k ∧ k ≤ 4 := ⟨d - lg, by omega, by omega⟩
  obtain ⟨k, rfl, hk4⟩ := hk
  rw [show lg + k - lg = k from by omega] at hr
  have hm0 : 0 ≤ sl * 2 ^ k ∧ sl * 2 ^ k ≤ 64 := by
    have : k = 0 ∨ k = 1 ∨ k = 2 ∨ k = 3 ∨ k = 4 := by omega
    rcases this with rfl | rfl | rfl | rfl | rfl <;> omega
  have ht := fun W hb => hg.out W hb (p.ticket - sl * 2 ^ k)
  generalize takenH (L.hist v) (p.ticket - sl * 2 ^ k) = tk at *
  have hP : (1 : Int) ≤ 2 ^ k ∧ (2 : Int) ^ k ≤ 16 := by
    have : k = 0 ∨ k = 1 ∨ k = 2 ∨ k = 3 ∨ k = 4 := by omega
    rcases this with rfl | rfl | rfl | rfl | rfl <;> decide
  have e0 : wrap64 ((2 : Int) ^ k) = 2 ^ k := Go.IntWalk.wrap64_in _ (by omega)
  have e1 : wrap64 (sl * wrap64 ((2 : Int) ^ k)) = sl * 2 ^ k := by rw [e0]; exact Go.IntWalk.wrap64_in _ (by omega)
  have e2 : wrap64 (p.ticket - sl * 2 ^ k) = p.ticket - sl * 2 ^ k := Go.IntWalk.wrap64_in _ (by omega)
  replace e1 : Hid _ := e1
  replace e2 : Hid _ := e2
  clear e0 hP hg
  by_cases hlt : p.ticket < sl * 2 ^ k
  · clear hr
    go_enter Tryz.func59, Tryz.ntmps59
    go_wp2_with fail
    refine Calls.mono (hd _) ?_
    rintro e w1 ⟨rfl, rfl⟩
    go_wp2_with fail
    go_region
    go_wp2_with fail
    rw [e1.out, e2.out]
    generalize sl * 2 ^ k = R at *
    refine Calls.mono (ht _ (Below.refl _ _).drew) ?_
    rintro e w1 ⟨rfl, rfl⟩
    go_wp2_with fail
    go_region_with (go_at_call 18; refine Calls.mono (HH.out _ HB.out.drew.drew) ?_; rintro e w2 ⟨rfl, ⟨z1, z2⟩, z3⟩; replace z3 : Hid _ := z3)
    all_goals
      clear HH
      go_wp2
      go_end0
      exact ⟨rfl, z3.out _⟩
  · have htk : tk = true := by rw [decide_eq_false hlt] at hr; simpa using hr
    subst htk
    have hlt' : decide (p.ticket < sl * 2 ^ k) = false := by simp; omega
    clear hr
    go_enter Tryz.func59, Tryz.ntmps59
    go_wp2_with fail
    refine Calls.mono (hd _) ?_
    rintro e w1 ⟨rfl, rfl⟩
    go_wp2_with fail
    go_region
    go_wp2_with fail
    rw [e1.out, e2.out]
    generalize sl * 2 ^ k = R at *
    refine Calls.mono (ht _ (Below.refl _ _).drew) ?_
    rintro e w1 ⟨rfl, rfl⟩
    go_wp2_with fail
    go_region_with (go_at_call 18; refine Calls.mono (HH.out _ HB.out.drew.drew) ?_; rintro e w2 ⟨rfl, ⟨z1, z2⟩, z3⟩; replace z3 : Hid _ := z3)
    all_goals
      clear HH
      go_wp2
      go_end0
      exact ⟨rfl, z3.out _⟩

set_option maxHeartbeats 8000000 in
set_option maxRecDepth 100000 in
theorem leaf_store_no {w : World} {B : Nat} {L : Lay} (h : RefRep w B L) {i pb v : Nat} {p : Pr} (hp : ProcAt w L i pb p) (hph : p.phase = 13) (hv : p.node = (v : Int)) (hv6 : v < 64) (hvl : v < L.past.length)
    (hs0 : 0 ≤ L.c.slots) (hs4 : L.c.slots ≤ 4) (hd0 : 0 ≤ L.c.depth) (hd4 : L.c.depth ≤ 4) (hld : (Nat.log2 v : Int) ≤ L.c.depth) (ht0 : 0 ≤ p.ticket) (ht9 : p.ticket ≤ 1000000000000) (hr : roomyH L.c v (L.hist v) p.ticket = false) :
    Calls Tryz.prog 59 #[.pointer (some ⟨L.tb, 0, none⟩), .pointer (some ⟨pb, 0, none⟩)] w fun e w' => e = .returned (.tuple #[]) ∧ Below w.heap.size w w' := by
  have hg := fun W (hb : Below w.heap.size w W) t => taken_c (h.below hb) v hvl t
  have hd := fun W => depth_c v hv6 W
  have k1 : w.cell? ⟨L.tb, 1, none⟩ = some (I L.c.depth) := by rw [block_cell h.tree]; rfl
  have k3 : w.cell? ⟨L.tb, 3, none⟩ = some (I L.c.slots) := by rw [block_cell h.tree]; rfl
  obtain ⟨f1, f2⟩ := nb_facts hp.blk
  have c0 := f1 0
  have c1 := f1 1
  have c3 := f1 3
  have c4 := f1 4
  have c11 := f1 11
  simp only [prCells] at c0 c1 c3 c4 c11
  simp at c0 c1 c3 c4 c11
  rw [hph] at c3
  rw [hv] at c4
  obtain ⟨d, hdd⟩ := Int.eq_ofNat_of_zero_le hd0
  have hdn : L.c.depth.toNat = d := by omega
  unfold roomyH roomOf at hr
  rw [hdn] at hr
  rw [hdd] at k1 hld hd4
  have hl5 : Nat.log2 v ≤ d := by omega
  generalize Nat.log2 v = lg at *
  generalize hsl : L.c.slots = sl at *
  clear h hp f1 hph hv hdd hdn hd0 hsl hld
  replace hg : Hid _ := hg
  have hk : ∃ k : Nat, d = lg + k ∧ k ≤ 4 := ⟨d - lg, by omega, by omega⟩
  obtain ⟨k, rfl, hk4⟩ := hk
  rw [show lg + k - lg = k from by omega] at hr
  have hm0 : 0 ≤ sl * 2 ^ k ∧ sl * 2 ^ k ≤ 64 := by
    have : k = 0 ∨ k = 1 ∨ k = 2 ∨ k = 3 ∨ k = 4 := by omega
    rcases this with rfl | rfl | rfl | rfl | rfl <;> omega
  have ht := fun W hb => hg.out W hb (p.ticket - sl * 2 ^ k)
  generalize takenH (L.hist v) (p.ticket - sl * 2 ^ k) = tk at *
  have hP : (1 : Int) ≤ 2 ^ k ∧ (2 : Int) ^ k ≤ 16 := by
    have : k = 0 ∨ k = 1 ∨ k = 2 ∨ k = 3 ∨ k = 4 := by omega
    rcases this with rfl | rfl | rfl | rfl | rfl <;> decide
  have e0 : wrap64 ((2 : Int) ^ k) = 2 ^ k := Go.IntWalk.wrap64_in _ (by omega)
  have e1 : wrap64 (sl * wrap64 ((2 : Int) ^ k)) = sl * 2 ^ k := by rw [e0]; exact Go.IntWalk.wrap64_in _ (by omega)
  have e2 : wrap64 (p.ticket - sl * 2 ^ k) = p.ticket - sl * 2 ^ k := Go.IntWalk.wrap64_in _ (by omega)
  replace e1 : Hid _ := e1
  replace e2 : Hid _ := e2
  clear e0 hP hg
  have hlt : ¬ p.ticket < sl * 2 ^ k := by intro hh; rw [decide_eq_true hh] at hr; simp at hr
  have htk : tk = false := by rw [decide_eq_false hlt] at hr; simpa using hr
  subst htk
  have hlt' : decide (p.ticket < sl * 2 ^ k) = false := by simp; omega
  clear hr
  go_enter Tryz.func59, Tryz.ntmps59
  go_wp2_with fail
  refine Calls.mono (hd _) ?_
  rintro e w1 ⟨rfl, rfl⟩
  go_wp2_with fail
  go_region
  go_wp2_with fail
  rw [e1.out, e2.out]
  generalize sl * 2 ^ k = R at *
  refine Calls.mono (ht _ (Below.refl _ _).drew) ?_
  rintro e w1 ⟨rfl, rfl⟩
  go_wp2
  go_end0
  exact ⟨rfl, (Below.refl _ _).drew⟩

set_option maxHeartbeats 4000000 in
set_option maxRecDepth 100000 in
theorem leaf_fetch_yes {w : World} {B : Nat} {L : Lay} (h : RefRep w B L) (hB : B ≤ w.heap.size) {i pb v : Nat} {p : Pr} (hp : ProcAt w L i pb p) (hph : p.phase = 14) (hv : p.node = (v : Int)) (hvl : v < L.past.length) (hll : (L.hist v).length ≤ 1000000000000) (x : Int) (hr : itemH (L.hist v) p.ticket = some x) :
    Calls Tryz.prog 59 #[.pointer (some ⟨L.tb, 0, none⟩), .pointer (some ⟨pb, 0, none⟩)] w fun e w' => e = .returned (.tuple #[]) ∧
      ∃ y, RefRep w' B ((L.hap v y ⟨9, p.ticket, 0, []⟩ (.slice none 0 0)).setP i { p with val := x, phase := 19 }) ∧ ChgT B [91, 69, 109] w w' := by
  have hg := item_c h v hvl p.ticket
  rw [hr] at hg
  unfold optV at hg
  simp only [Option.getD_some, Option.isSome_some] at hg
  obtain ⟨f1, f2⟩ := nb_facts hp.blk
  have c3 := f1 3
  have c4 := f1 4
  have c11 := f1 11
  simp only [prCells] at c3 c4 c11
  simp at c3 c4 c11
  rw [hph] at c3
  rw [hv] at c4
  have HH : Hid (∀ W, Below w.heap.size w W → _) := fun W (hW : Below w.heap.size w W) => hap_then (w2 := W.setCell ⟨pb, 5, none⟩ (I x)) (p1 := { p with val := x }) h hB hp hvl hll ⟨9, p.ticket, 0, []⟩ rfl hW ((PutB.refl (hp.below hW).blk).set 5 (I x))
  have HF : Hid (∀ W : World, Below w.heap.size w W → W.cell? ⟨pb, 11, none⟩ = some (I p.ticket) ∧ W.cell? ⟨pb, 5, none⟩ = some (I p.val) ∧ W.cell? ⟨pb, 3, none⟩ = some (I p.phase) ∧ ∀ k, W.frozen? ⟨pb, k, none⟩ = false) := by
    intro W hW
    obtain ⟨g1, g2⟩ := nb_facts (hp.below hW).blk
    exact ⟨by rw [g1]; rfl, by rw [g1]; rfl, by rw [g1]; rfl, g2⟩
  clear h hp f1 hph hv hr
  go_enter Tryz.func59, Tryz.ntmps59
  go_wp2_with fail
  refine hg.mono ?_
  rintro e w1 ⟨rfl, hb⟩
  obtain ⟨g11, g5, g3, gf⟩ := HF.out w1 hb
  clear hg HF c3 c4 c11 f2
  have HB : Hid _ := hb
  clear hb
  go_wp2_with fail
  refine Calls.mono (HH.out _ HB.out) ?_
  rintro e w2 ⟨rfl, ⟨z1, z2⟩, z3⟩
  replace z3 : Hid _ := z3
  clear HH
  go_wp2
  go_end0
  exact ⟨rfl, z3.out _⟩

set_option maxHeartbeats 4000000 in
set_option maxRecDepth 100000 in
theorem leaf_fetch_no {w : World} {B : Nat} {L : Lay} (h : RefRep w B L) {i pb v : Nat} {p : Pr} (hp : ProcAt w L i pb p) (hph : p.phase = 14) (hv : p.node = (v : Int)) (hvl : v < L.past.length) (hr : itemH (L.hist v) p.ticket = none) :
    Calls Tryz.prog 59 #[.pointer (some ⟨L.tb, 0, none⟩), .pointer (some ⟨pb, 0, none⟩)] w fun e w' => e = .returned (.tuple #[]) ∧ Below w.heap.size w w' := by
  have hg := item_c h v hvl p.ticket
  rw [hr] at hg
  unfold optV at hg
  simp only [Option.getD_none, Option.isSome_none] at hg
  obtain ⟨f1, f2⟩ := nb_facts hp.blk
  have c3 := f1 3
  have c4 := f1 4
  have c11 := f1 11
  simp only [prCells] at c3 c4 c11
  simp at c3 c4 c11
  rw [hph] at c3
  rw [hv] at c4
  clear h hp f1 hph hv hr
  go_enter Tryz.func59, Tryz.ntmps59
  go_wp2_with fail
  refine hg.mono ?_
  rintro e w1 ⟨rfl, hb⟩
  go_wp2
  go_end0
  exact ⟨rfl, hb⟩

/-- One step more is counted. -/
abbrev incPr (p : Pr) : Pr := { p with steps := wrap64 (p.steps + 1) }

theorem RefRep.pv_at {w : World} {B : Nat} {L : Lay} (h : RefRep w B L) : ∃ ao cap, w.cell? ⟨L.tb, 8, none⟩ = some (.slice ao L.procs.length cap) ∧ L.procs.length ≤ cap ∧ L.procs.length ≤ maxLen ∧ cap ≤ maxLen := by
  have h1 := h.pv_cell
  obtain ⟨ao, cap, e1, c1, c2, c3, _⟩ := h.proc_at
  rw [e1] at h1
  exact ⟨ao, cap, h1, c1, c2, c3⟩

set_option maxHeartbeats 2000000 in
theorem rStep_none {w : World} {B : Nat} {L : Lay} (h : RefRep w B L) (n : Int) (hn : n < 0 ∨ (L.procs.length : Int) ≤ n) (draw : Int) :
    Calls Tryz.prog 36 #[.pointer (some ⟨L.tb, 0, none⟩), I n, I draw] w fun e w' => e = .returned (.tuple #[I 0, I 5]) ∧ Below w.heap.size w w' := by
  obtain ⟨ao, cap, p1, q1, q2, q3⟩ := h.pv_at
  unfold maxLen at q2 q3
  clear h
  generalize L.procs.length = np at *
  by_cases h0 : n < 0
  · clear hn
    go_enter Tryz.func36, Tryz.ntmps36
    go_wp2
    go_ret2
    exact ⟨rfl, Below.refl _ _⟩
  · have hd : decide (n < 0) = false := by simp; omega
    have hge : (np : Int) ≤ n := by omega
    clear hn
    go_enter Tryz.func36, Tryz.ntmps36
    go_wp2
    go_ret2
    exact ⟨rfl, Below.refl _ _⟩

set_option maxHeartbeats 2000000 in
theorem rStep_done {w : World} {B : Nat} {L : Lay} (h : RefRep w B L) {i pb : Nat} {p : Pr} (hp : ProcAt w L i pb p) (hph : p.phase = 20) (draw : Int) :
    Calls Tryz.prog 36 #[.pointer (some ⟨L.tb, 0, none⟩), I i, I draw] w fun e w' => e = .returned (.tuple #[I 0, I 5]) ∧ Below w.heap.size w w' := by
  obtain ⟨g, cap, k8, d1, d2, d3, cg, lg⟩ := hp.slot h
  obtain ⟨f1, f2⟩ := nb_facts hp.blk
  have c3 := f1 3
  simp only [prCells] at c3
  simp at c3
  rw [hph] at c3
  unfold maxLen at d2 d3
  have hi : (i : Int) < (L.procs.length : Int) := by have := hp.hi; omega
  have hi0 : decide ((i : Int) < 0) = false := by simp
  generalize L.procs.length = np at *
  clear h hp hph f1
  go_enter Tryz.func36, Tryz.ntmps36
  go_wp2
  go_ret2
  exact ⟨rfl, Below.refl _ _⟩

set_option maxHeartbeats 4000000 in
theorem rStep_enter {w : World} {B : Nat} {L : Lay} (h : RefRep w B L) {i pb : Nat} {p : Pr} (hp : ProcAt w L i pb p) (hph : p.phase = 0) (draw : Int) :
    Calls Tryz.prog 36 #[.pointer (some ⟨L.tb, 0, none⟩), I i, I draw] w fun e w' => e = .returned (.tuple #[I 1, I 0]) ∧ RefRep w' B (L.setP i { incPr p with phase := 1 }) ∧ ChgT B [109] w w' := by
  obtain ⟨g, cap, k8, d1, d2, d3, cg, lg⟩ := hp.slot h
  obtain ⟨f1, f2⟩ := nb_facts hp.blk
  have c3 := f1 3
  have c12 := f1 12
  simp only [prCells] at c3 c12
  simp at c3 c12
  rw [hph] at c3
  unfold maxLen at d2 d3
  have hi : (i : Int) < (L.procs.length : Int) := by have := hp.hi; omega
  have hi0 : decide ((i : Int) < 0) = false := by simp
  have HE := hp.wrote (p' := { incPr p with phase := 1 }) h (Below.refl _ _) (((PutB.refl hp.blk).set 12 (I (wrap64 (p.steps + 1)))).set 3 (I 1))
  replace HE : Hid _ := HE
  generalize L.procs.length = np at *
  clear h hp hph f1
  go_enter Tryz.func36, Tryz.ntmps36
  go_wp2
  go_ret2
  exact ⟨rfl, HE.out⟩

set_option maxHeartbeats 4000000 in
theorem rStep_back {w : World} {B : Nat} {L : Lay} (h : RefRep w B L) {i pb : Nat} {p : Pr} (hp : ProcAt w L i pb p) (hph : p.phase = 2) (draw : Int) :
    Calls Tryz.prog 36 #[.pointer (some ⟨L.tb, 0, none⟩), I i, I draw] w fun e w' => e = .returned (.tuple #[I 0, I 0]) ∧ RefRep w' B (L.setP i { incPr p with phase := 0 }) ∧ ChgT B [109] w w' := by
  obtain ⟨g, cap, k8, d1, d2, d3, cg, lg⟩ := hp.slot h
  obtain ⟨f1, f2⟩ := nb_facts hp.blk
  have c3 := f1 3
  have c12 := f1 12
  simp only [prCells] at c3 c12
  simp at c3 c12
  unfold maxLen at d2 d3
  have hi : (i : Int) < (L.procs.length : Int) := by have := hp.hi; omega
  have hi0 : decide ((i : Int) < 0) = false := by simp
  rw [hph] at c3
  have HE := hp.wrote (p' := { incPr p with phase := 0 }) h (Below.refl _ _) (((PutB.refl hp.blk).set 12 (I (wrap64 (p.steps + 1)))).set 3 (I 0))
  replace HE : Hid _ := HE
  generalize L.procs.length = np at *
  clear h hp hph f1
  go_enter Tryz.func36, Tryz.ntmps36
  go_wp2
  go_ret2
  exact ⟨rfl, HE.out⟩

/-- Behind the count of one step more. -/
theorem ProcAt.inc {w : World} {B : Nat} {L : Lay} (h : RefRep w B L) {i pb : Nat} {p : Pr} (hp : ProcAt w L i pb p) :
    RefRep (w.setCell ⟨pb, 12, none⟩ (I (wrap64 (p.steps + 1)))) B (L.setP i (incPr p)) ∧ ProcAt (w.setCell ⟨pb, 12, none⟩ (I (wrap64 (p.steps + 1)))) (L.setP i (incPr p)) i pb (incPr p) ∧ ChgT B [109] w (w.setCell ⟨pb, 12, none⟩ (I (wrap64 (p.steps + 1)))) := by
  have hw : PutB w (w.setCell ⟨pb, 12, none⟩ (I (wrap64 (p.steps + 1)))) pb (prCells (incPr p)) 109 := (PutB.refl hp.blk).set 12 (I (wrap64 (p.steps + 1)))
  obtain ⟨a, b⟩ := hp.put h hw
  exact ⟨a, hp.setP_self hw, b⟩

set_option maxHeartbeats 8000000 in
theorem rStep_look {w : World} {B : Nat} {L : Lay} (h : RefRep w B L) {i pb : Nat} {p : Pr} (hp : ProcAt w L i pb p) (hph : p.phase = 1) (draw : Int) {R : Int → World → Prop}
    (hc : Calls Tryz.prog 55 #[.pointer (some ⟨L.tb, 0, none⟩), .pointer (some ⟨pb, 0, none⟩)] (w.setCell ⟨pb, 12, none⟩ (I (wrap64 (p.steps + 1)))) fun e w' => e = .returned (.tuple #[]) ∧ ∃ ph, w'.cell? ⟨pb, 3, none⟩ = some (I ph) ∧ R ph w') :
    Calls Tryz.prog 36 #[.pointer (some ⟨L.tb, 0, none⟩), I i, I draw] w fun e w' => ∃ ph, e = .returned (.tuple #[I ph, I 0]) ∧ R ph w' := by
  obtain ⟨g, cap, k8, d1, d2, d3, cg, lg⟩ := hp.slot h
  obtain ⟨f1, f2⟩ := nb_facts hp.blk
  have c3 := f1 3
  have c12 := f1 12
  simp only [prCells] at c3 c12
  simp at c3 c12
  unfold maxLen at d2 d3
  have hi : (i : Int) < (L.procs.length : Int) := by have := hp.hi; omega
  have hi0 : decide ((i : Int) < 0) = false := by simp
  replace hc : Hid _ := hc
  generalize L.procs.length = np at *
  clear h hp f1
  rw [hph] at c3
  clear hph
  go_enter Tryz.func36, Tryz.ntmps36
  go_wp2_with fail
  refine Calls.mono hc.out ?_
  rintro e w1 ⟨rfl, ph, hf, hR⟩
  replace hR : Hid _ := hR
  clear hc c3 c12 k8 cg f2
  go_wp2
  go_ret2
  exact ⟨ph, rfl, hR.out⟩

set_option maxHeartbeats 8000000 in
theorem rStep_up {w : World} {B : Nat} {L : Lay} (h : RefRep w B L) {i pb : Nat} {p : Pr} (hp : ProcAt w L i pb p) (hph : p.phase = 19) (draw : Int) {R : Int → World → Prop}
    (hc : Calls Tryz.prog 58 #[.pointer (some ⟨pb, 0, none⟩)] (w.setCell ⟨pb, 12, none⟩ (I (wrap64 (p.steps + 1)))) fun e w' => e = .returned (.tuple #[]) ∧ ∃ ph, w'.cell? ⟨pb, 3, none⟩ = some (I ph) ∧ R ph w') :
    Calls Tryz.prog 36 #[.pointer (some ⟨L.tb, 0, none⟩), I i, I draw] w fun e w' => ∃ ph, e = .returned (.tuple #[I ph, I 0]) ∧ R ph w' := by
  obtain ⟨g, cap, k8, d1, d2, d3, cg, lg⟩ := hp.slot h
  obtain ⟨f1, f2⟩ := nb_facts hp.blk
  have c3 := f1 3
  have c12 := f1 12
  simp only [prCells] at c3 c12
  simp at c3 c12
  unfold maxLen at d2 d3
  have hi : (i : Int) < (L.procs.length : Int) := by have := hp.hi; omega
  have hi0 : decide ((i : Int) < 0) = false := by simp
  replace hc : Hid _ := hc
  generalize L.procs.length = np at *
  clear h hp f1
  rw [hph] at c3
  clear hph
  go_enter Tryz.func36, Tryz.ntmps36
  go_wp2_with fail
  refine Calls.mono hc.out ?_
  rintro e w1 ⟨rfl, ph, hf, hR⟩
  replace hR : Hid _ := hR
  clear hc c3 c12 k8 cg f2
  go_wp2
  go_ret2
  exact ⟨ph, rfl, hR.out⟩

set_option maxHeartbeats 8000000 in
theorem rStep_leaf {w : World} {B : Nat} {L : Lay} (h : RefRep w B L) {i pb : Nat} {p : Pr} (hp : ProcAt w L i pb p) (hph : p.phase = 12 ∨ p.phase = 13 ∨ p.phase = 14) (draw : Int) {R : Int → World → Prop}
    (hc : Calls Tryz.prog 59 #[.pointer (some ⟨L.tb, 0, none⟩), .pointer (some ⟨pb, 0, none⟩)] (w.setCell ⟨pb, 12, none⟩ (I (wrap64 (p.steps + 1)))) fun e w' => e = .returned (.tuple #[]) ∧ ∃ ph, w'.cell? ⟨pb, 3, none⟩ = some (I ph) ∧ R ph w') :
    Calls Tryz.prog 36 #[.pointer (some ⟨L.tb, 0, none⟩), I i, I draw] w fun e w' => ∃ ph, e = .returned (.tuple #[I ph, I 0]) ∧ R ph w' := by
  obtain ⟨g, cap, k8, d1, d2, d3, cg, lg⟩ := hp.slot h
  obtain ⟨f1, f2⟩ := nb_facts hp.blk
  have c3 := f1 3
  have c12 := f1 12
  simp only [prCells] at c3 c12
  simp at c3 c12
  unfold maxLen at d2 d3
  have hi : (i : Int) < (L.procs.length : Int) := by have := hp.hi; omega
  have hi0 : decide ((i : Int) < 0) = false := by simp
  replace hc : Hid _ := hc
  generalize L.procs.length = np at *
  clear h hp f1
  rcases hph with hph | hph | hph
  all_goals
    rw [hph] at c3
    clear hph
    go_enter Tryz.func36, Tryz.ntmps36
    go_wp2_with fail
    refine Calls.mono hc.out ?_
    rintro e w1 ⟨rfl, ph, hf, hR⟩
    replace hR : Hid _ := hR
    clear hc c3 c12 k8 cg f2
    go_wp2
    go_ret2
    exact ⟨ph, rfl, hR.out⟩

set_option maxHeartbeats 8000000 in
theorem rStep_meeting {w : World} {B : Nat} {L : Lay} (h : RefRep w B L) {i pb : Nat} {p : Pr} (hp : ProcAt w L i pb p) (hph : p.phase = 3 ∨ p.phase = 4 ∨ p.phase = 5 ∨ p.phase = 6 ∨ p.phase = 7 ∨ p.phase = 8 ∨ p.phase = 9 ∨ p.phase = 10) (draw : Int) {R : Int → World → Prop}
    (hc : Calls Tryz.prog 61 #[.pointer (some ⟨L.tb, 0, none⟩), .pointer (some ⟨pb, 0, none⟩), I i, I draw] (w.setCell ⟨pb, 12, none⟩ (I (wrap64 (p.steps + 1)))) fun e w' => e = .returned (.tuple #[]) ∧ ∃ ph, w'.cell? ⟨pb, 3, none⟩ = some (I ph) ∧ R ph w') :
    Calls Tryz.prog 36 #[.pointer (some ⟨L.tb, 0, none⟩), I i, I draw] w fun e w' => ∃ ph, e = .returned (.tuple #[I ph, I 0]) ∧ R ph w' := by
  obtain ⟨g, cap, k8, d1, d2, d3, cg, lg⟩ := hp.slot h
  obtain ⟨f1, f2⟩ := nb_facts hp.blk
  have c3 := f1 3
  have c12 := f1 12
  simp only [prCells] at c3 c12
  simp at c3 c12
  unfold maxLen at d2 d3
  have hi : (i : Int) < (L.procs.length : Int) := by have := hp.hi; omega
  have hi0 : decide ((i : Int) < 0) = false := by simp
  replace hc : Hid _ := hc
  generalize L.procs.length = np at *
  clear h hp f1
  rcases hph with hph | hph | hph | hph | hph | hph | hph | hph
  all_goals
    rw [hph] at c3
    clear hph
    go_enter Tryz.func36, Tryz.ntmps36
    go_wp2_with fail
    refine Calls.mono hc.out ?_
    rintro e w1 ⟨rfl, ph, hf, hR⟩
    replace hR : Hid _ := hR
    clear hc c3 c12 k8 cg f2
    go_wp2
    go_ret2
    exact ⟨ph, rfl, hR.out⟩

def togH (l : Hist) : Int := ((fromH l).1.n + manyH 4 (-1) l) % 2

set_option maxHeartbeats 8000000 in
theorem rStep_toggle {w : World} {B : Nat} {L : Lay} (h : RefRep w B L) (hB : B ≤ w.heap.size) {i pb v : Nat} {p : Pr} (hp : ProcAt w L i pb p) (hph : p.phase = 11) (hv : p.node = (v : Int)) (hv9 : v ≤ 1000) (hvl : v < L.past.length) (hll : (L.hist v).length ≤ 1000000000000) (h0 : 0 ≤ (fromH (L.hist v)).1.n) (h9 : (fromH (L.hist v)).1.n ≤ 1000000000000000000) (hkk : manyH 4 (-1) (L.hist v) ≤ 1000000000000000000) (draw : Int) :
    Calls Tryz.prog 36 #[.pointer (some ⟨L.tb, 0, none⟩), I i, I draw] w fun e w' => e = .returned (.tuple #[I 0, I 0]) ∧ ∃ x, RefRep w' B ((L.hap v x ⟨4, 0, 0, []⟩ (.slice none 0 0)).setP i { incPr p with node := 2 * p.node + (if p.kind = 2 then (togH (L.hist v) + 1) % 2 else togH (L.hist v)), phase := 0 }) ∧ ChgT B [91, 69, 109] w w' := by
  obtain ⟨h1, hp1, hc1⟩ := hp.inc h
  obtain ⟨g, cap, k8, d1, d2, d3, cg, lg⟩ := hp.slot h
  obtain ⟨f1, f2⟩ := nb_facts hp.blk
  have c3 := f1 3
  have c12 := f1 12
  simp only [prCells] at c3 c12
  simp at c3 c12
  unfold maxLen at d2 d3
  have hi : (i : Int) < (L.procs.length : Int) := by have := hp.hi; omega
  have hi0 : decide ((i : Int) < 0) = false := by simp
  have c0 := f1 0
  have c4 := f1 4
  simp only [prCells] at c0 c4
  simp at c0 c4
  rw [hph] at c3
  rw [hv] at c4
  have htg := toggle_c h1 v hvl h0 h9 hkk
  have et : ((fromH ((L.setP i (incPr p)).hist v)).1.n + manyH 4 (-1) ((L.setP i (incPr p)).hist v)) % 2 = togH (L.hist v) := rfl
  rw [et] at htg
  have ht01 : togH (L.hist v) = 0 ∨ togH (L.hist v) = 1 := by unfold togH; omega
  generalize togH (L.hist v) = tg at *
  have HH : Hid (∀ W, Below (w.setCell ⟨pb, 12, none⟩ (I (wrap64 (p.steps + 1)))).heap.size (w.setCell ⟨pb, 12, none⟩ (I (wrap64 (p.steps + 1)))) W → Calls Tryz.prog 18 #[.pointer (some ⟨L.tb, 0, none⟩), I v, .agg #[I 4, I 0, I 0, .slice none 0 0]] W fun e w3 => e = .returned (.tuple #[]) ∧ (w3.cell? ⟨pb, 0, none⟩ = some (I p.kind)) ∧ ∀ b : Int, 0 ≤ b → b ≤ 1 → Calls Tryz.prog 57 #[.pointer (some ⟨pb, 0, none⟩), I b] w3 fun e w' => e = .returned (.tuple #[]) ∧ w'.cell? ⟨pb, 3, none⟩ = some (I 0) ∧ ∃ x, RefRep w' B ((L.hap v x ⟨4, 0, 0, []⟩ (.slice none 0 0)).setP i { incPr p with node := 2 * p.node + b, phase := 0 }) ∧ ChgT B [91, 69, 109] w w') := by
    intro W hW
    have hs : B ≤ W.heap.size := by have := hW.size; simp [World.setCell] at this; omega
    refine (happens_c (h1.below hW) hs v hvl hll ⟨4, 0, 0, []⟩ (.slice none 0 0) (World.ownsRow_nil _ _ _ _)).mono ?_
    rintro e w3 ⟨e0, ⟨x, r3⟩, k3⟩
    have hb3 := k3.at (hp1.below hW).blk (by decide)
    refine ⟨e0, by rw [(nb_facts hb3).1 0]; rfl, fun b hb0 hb1 => ?_⟩
    refine (child_c hb3 (by show 0 ≤ p.node; omega) (by show p.node ≤ _; omega) b hb0 hb1).mono ?_
    rintro e w' ⟨e1, hpu⟩
    have hp3 : ProcAt w3 { L.setP i (incPr p) with past := L.past.set v (x, (⟨4, 0, 0, []⟩, .slice none 0 0) :: L.hist v) } i pb (incPr p) := ⟨hp1.hi, hb3, hp1.eb, hp1.ep⟩
    obtain ⟨r4, k4⟩ := hp3.put r3 hpu
    refine ⟨e1, by rw [(nb_facts hpu.blk).1 3]; rfl, x, ?_, ?_⟩
    · have e2 := Lay.setP_self (L := L.hap v x ⟨4, 0, 0, []⟩ (.slice none 0 0)) (i := i) hp.hi (incPr p) { incPr p with node := 2 * p.node + b, phase := 0 }
      rw [← e2]
      exact r4
    · exact (((hc1.mono (Nat.le_refl _) (by simp)).trans (ChgT.of_below hW)).trans (k3.mono (Nat.le_refl _) (by simp))).trans (k4.mono (Nat.le_refl _) (by simp))
  have HF : Hid (∀ W, Below (w.setCell ⟨pb, 12, none⟩ (I (wrap64 (p.steps + 1)))).heap.size (w.setCell ⟨pb, 12, none⟩ (I (wrap64 (p.steps + 1)))) W → W.cell? ⟨pb, 4, none⟩ = some (I v)) := by
    intro W hW
    rw [← hv]
    rw [(nb_facts (hp1.below hW).blk).1 4]; rfl
  generalize L.procs.length = np at *
  replace htg : Hid _ := htg
  clear h hp h1 hp1 hc1 f1 hph hv h0 h9 hkk
  by_cases hk : p.kind = 2
  · rw [if_pos hk]
    rw [hk] at c0 HH
    clear hk
    rcases ht01 with rfl | rfl
    all_goals
      go_enter Tryz.func36, Tryz.ntmps36
      go_wp2_with fail
      refine Calls.mono htg.out ?_
      rintro e w1 ⟨rfl, hb⟩
      have k4 := HF.out w1 hb
      have hh := HH.out w1 hb
      replace hh : Hid _ := hh
      clear HF HH htg c0 c3 c4 c12 k8 cg f2 hb
      go_wp2_with fail
      refine Calls.mono hh.out ?_
      rintro e w2 ⟨rfl, hk0, hch⟩
      replace hch : Hid _ := hch
      clear hh k4
      go_wp2_with fail
      refine Calls.mono (hch.out _ (by omega) (by omega)) ?_
      rintro e w3 ⟨rfl, hk3, hfin⟩
      replace hfin : Hid _ := hfin
      clear hch
      go_wp2
      go_ret2
      exact ⟨rfl, hfin.out⟩
  · rw [if_neg hk]
    have b1 : (p.kind == 2) = false := by simp [hk]
    clear hk
    go_enter Tryz.func36, Tryz.ntmps36
    go_wp2_with fail
    refine Calls.mono htg.out ?_
    rintro e w1 ⟨rfl, hb⟩
    have k4 := HF.out w1 hb
    have hh := HH.out w1 hb
    replace hh : Hid _ := hh
    clear HF HH htg c0 c3 c4 c12 k8 cg f2 hb
    go_wp2_with fail
    refine Calls.mono hh.out ?_
    rintro e w2 ⟨rfl, hk0, hch⟩
    have hch2 := hch tg (by omega) (by omega)
    replace hch2 : Hid _ := hch2
    clear hh k4 hch
    go_wp2_with fail
    refine Calls.mono hch2.out ?_
    rintro e w3 ⟨rfl, hk3, hfin⟩
    replace hfin : Hid _ := hfin
    clear hch2
    go_wp2
    go_ret2
    exact ⟨rfl, hfin.out⟩

end Go.Proofs.YtjnmpejcegmkhaaGreatDoor
