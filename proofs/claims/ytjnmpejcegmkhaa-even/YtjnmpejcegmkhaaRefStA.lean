/- Contracts of package prismref's small functions that write a process: child, up, ends, settled; remainder. Contracts of package prismref's meeting, phase by phase: Wide, Slot, Claim, Wait. Contracts of package prismref's meeting, phase by phase: Slot, Taken, Grow, Shrink. Contracts of package prismref's meeting, phase by phase: Taken, Grow, Shrink. Contracts of package prismref's meeting: the phase Meet. Contracts of package prismref's meeting: the phase Meet, where the kept one is met. Contracts of package prismref's look, of an Inc, a Put or a Get. Contracts of package prismref's leaf: the phase Ticket. Contracts of package prismref's leaf: the phases Store and Fetch. Contracts of package prismref's Step: its errors, and by phase. No statement of the seat is proved here. -/
import Derived.Test.YtjnmpejcegmkhaaRefB
import Derived.Deep.QuietTactic
import Derived.BigQuiet
namespace Go.Proofs.Ytjnmpejcegmkhaa
open Go.RowKit
set_option linter.unusedVariables false

/-- Nothing but block b has turned; it holds cs now. -/
structure PutB (w w' : World) (b : Nat) (cs : Array Value) (T : TypeId) : Prop where
  os : w'.os = w.os
  tape : w'.tape = w.tape
  output : w'.output = w.output
  size : w'.heap.size = w.heap.size
  blk : w'.heap[b]? = some (.cells cs T (0, 0))
  other : ∀ k, k ≠ b → w'.heap[k]? = w.heap[k]?

theorem PutB.refl {w : World} {b : Nat} {cs : Array Value} {T : TypeId} (h : w.heap[b]? = some (.cells cs T (0, 0))) : PutB w w b cs T := ⟨rfl, rfl, rfl, rfl, h, fun _ _ => rfl⟩
theorem PutB.set {w0 w : World} {b : Nat} {cs : Array Value} {T : TypeId} (h : PutB w0 w b cs T) (j : Nat) (x : Value) : PutB w0 (w.setCell ⟨b, j, none⟩ x) b (cs.setIfInBounds j x) T :=
  ⟨h.os, h.tape, h.output, by simpa [World.setCell] using h.size, nb_set h.blk j x, fun k hk => by rw [Below.heap_setCell _ _ _ _ hk]; exact h.other k hk⟩
theorem PutB.drew {w0 w : World} {b : Nat} {cs : Array Value} {T : TypeId} (h : PutB w0 w b cs T) : PutB w0 w.drew b cs T := ⟨h.os, h.tape, h.output, h.size, h.blk, h.other⟩
theorem PutB.trans {w0 w w' : World} {b : Nat} {cs cs' : Array Value} {T : TypeId} (h : PutB w0 w b cs T) (k : PutB w w' b cs' T) : PutB w0 w' b cs' T :=
  ⟨k.os.trans h.os, k.tape.trans h.tape, k.output.trans h.output, k.size.trans h.size, k.blk, fun i hi => (k.other i hi).trans (h.other i hi)⟩
theorem PutB.chg {w w' : World} {b B : Nat} {cs : Array Value} {T : TypeId} {Ts : List TypeId} (h : PutB w w' b cs T) (hB : B ≤ b) {cs0 : Array Value} (h0 : w.heap[b]? = some (.cells cs0 T (0, 0))) (hT : T ∈ Ts) : ChgT B Ts w w' :=
  ⟨h.os, h.tape, h.output, Nat.le_of_eq h.size.symm, fun k _ hc => h.other k (by
    intro e
    subst e
    rcases hc with hc | hc
    · omega
    · exact hc _ _ _ h0 hT)⟩

abbrev Lay.setP (L : Lay) (i : Nat) (p : Pr) : Lay := { L with procs := L.procs.set i ((L.procs.getD i (0, p)).1, p) }

theorem RefRep.putP {w w' : World} {B : Nat} {L : Lay} (h : RefRep w B L) {i : Nat} (hi : i < L.procs.length) {p : Pr} (hp : PutB w w' (L.procs[i]).1 (prCells p) 1000002) : RefRep w' B (L.setP i p) := h.no.elim
def upPr (p : Pr) : Pr := { p with node := p.node / 2, phase := if p.node / 2 = 0 then 20 else 19 }

def settledPr (p q : Pr) (b : Int) : Pr :=
  if p.kind = q.kind then { p with node := 2 * p.node + b, phase := 0 }
  else if p.kind = 2 then { p with val := q.oval, phase := 19 } else { p with phase := 19 }

theorem tmod_twice (x : Int) (m : Int) (hm : 0 < m) : (x.tmod m + m).tmod m = x % m := by
  have h1 : -m < x.tmod m := by
    rcases Int.le_total 0 x with hx | hx
    · have := Int.tmod_nonneg m hx; omega
    · have h2 : (-x).tmod m = -(x.tmod m) := Int.neg_tmod x m
      have h3 := Int.tmod_lt_of_pos (-x) hm
      omega
  rw [Int.tmod_eq_emod_of_nonneg (by omega), Int.add_emod_right]
  rcases Int.le_total 0 x with hx | hx
  · rw [Int.tmod_eq_emod_of_nonneg hx, Int.emod_emod]
  · have h2 := Int.tmod_def x m
    have : x.tmod m = x + m * (-(x.tdiv m)) := by rw [Int.mul_neg]; omega
    rw [this, Int.add_mul_emod_self_left]

/-- The cells of process i, as the walks ask for them. -/
structure ProcAt (w : World) (L : Lay) (i : Nat) (pb : Nat) (p : Pr) : Prop where
  hi : i < L.procs.length
  blk : w.heap[pb]? = some (.cells (prCells p) 1000002 (0, 0))
  eb : (L.procs.getD i (0, p)).1 = pb
  ep : (L.procs.getD i (0, p)).2 = p

theorem RefRep.procAt {w : World} {B : Nat} {L : Lay} (h : RefRep w B L) {i : Nat} (hi : i < L.procs.length) : ProcAt w L i (L.procs[i]).1 (L.procs[i]).2 := h.no.elim
theorem PutB.drewN {w0 w : World} {b : Nat} {cs : Array Value} {T : TypeId} (h : PutB w0 w b cs T) (n : Nat) : PutB w0 (w.drewN n) b cs T := by
  induction n with
  | zero => exact h
  | succ n ih => exact ih.drew

theorem ProcAt.put {w w' : World} {B : Nat} {L : Lay} {i pb : Nat} {p p' : Pr} (h : ProcAt w L i pb p) (hr : RefRep w B L) (hp : PutB w w' pb (prCells p') 1000002) : RefRep w' B (L.setP i p') ∧ ChgT B [1000002] w w' := hr.no.elim
set_option maxHeartbeats 2000000 in
set_option maxRecDepth 100000 in
theorem meet_wide {w : World} {B : Nat} {L : Lay} (h : RefRep w B L) {i pb v : Nat} {p : Pr} (hp : ProcAt w L i pb p) (hph : p.phase = 3) (hv : p.node = (v : Int)) (hvl : v < L.past.length) (draw : Int) (m : Nat) (hm : widthH (L.hist v) = (m : Int)) (hm1 : 1 ≤ m) (hm4 : m ≤ 1000) :
    Calls Try.prog 1000028 #[.pointer (some ⟨L.tb, 0, none⟩), .pointer (some ⟨pb, 0, none⟩), I i, I draw] w fun e w' => e = .returned (.tuple #[]) ∧ PutB w w' pb (prCells { p with wide := m, slot := draw % m, phase := 4 }) 1000002 := h.no.elim
set_option maxHeartbeats 2000000 in
set_option maxRecDepth 100000 in
theorem meet_claim {w : World} {B : Nat} {L : Lay} (h : RefRep w B L) {i pb : Nat} {p : Pr} (hp : ProcAt w L i pb p) (hph : p.phase = 5) (draw : Int) (hw : waitsL p.node p.slot L.procs 0 < 0) :
    Calls Try.prog 1000028 #[.pointer (some ⟨L.tb, 0, none⟩), .pointer (some ⟨pb, 0, none⟩), I i, I draw] w fun e w' => e = .returned (.tuple #[]) ∧ PutB w w' pb (prCells { p with phase := 6, met := -1, pat := L.c.spin }) 1000002 := h.no.elim
set_option maxHeartbeats 2000000 in
set_option maxRecDepth 100000 in
theorem meet_claim_no {w : World} {B : Nat} {L : Lay} (h : RefRep w B L) {i pb : Nat} {p : Pr} (hp : ProcAt w L i pb p) (hph : p.phase = 5) (draw : Int) (hw : 0 ≤ waitsL p.node p.slot L.procs 0) :
    Calls Try.prog 1000028 #[.pointer (some ⟨L.tb, 0, none⟩), .pointer (some ⟨pb, 0, none⟩), I i, I draw] w fun e w' => e = .returned (.tuple #[]) ∧ PutB w w' pb (prCells { p with phase := 9 }) 1000002 := h.no.elim
def waitPr (p : Pr) : Pr := if 0 ≤ p.met then { p with phase := 7 } else if 0 < p.pat then { p with pat := p.pat - 1 } else { p with phase := 10 }

set_option maxHeartbeats 2000000 in
set_option maxRecDepth 100000 in
theorem meet_slot_free {w : World} {B : Nat} {L : Lay} (h : RefRep w B L) {i pb : Nat} {p : Pr} (hp : ProcAt w L i pb p) (hph : p.phase = 4) (draw : Int) (hw : waitsL p.node p.slot L.procs 0 < 0) :
    Calls Try.prog 1000028 #[.pointer (some ⟨L.tb, 0, none⟩), .pointer (some ⟨pb, 0, none⟩), I i, I draw] w fun e w' => e = .returned (.tuple #[]) ∧ PutB w w' pb (prCells { p with phase := 5 }) 1000002 := h.no.elim
def slotPr (p q : Pr) (j : Int) : Pr := if 0 ≤ q.met then { p with phase := 11 } else { p with mind := j, phase := 8 }

set_option maxHeartbeats 2000000 in
set_option maxRecDepth 100000 in
theorem meet_slot_who {w : World} {B : Nat} {L : Lay} (h : RefRep w B L) {i j pb qb : Nat} {p q : Pr} (hp : ProcAt w L i pb p) (hq : ProcAt w L j qb q) (hph : p.phase = 4) (draw : Int) (hw : waitsL p.node p.slot L.procs 0 = (j : Int)) :
    Calls Try.prog 1000028 #[.pointer (some ⟨L.tb, 0, none⟩), .pointer (some ⟨pb, 0, none⟩), I i, I draw] w fun e w' => e = .returned (.tuple #[]) ∧ PutB w w' pb (prCells (slotPr p q j)) 1000002 := h.no.elim
theorem ProcAt.slot {w : World} {B : Nat} {L : Lay} (h : RefRep w B L) {j qb : Nat} {q : Pr} (hq : ProcAt w L j qb q) : ∃ g cap, w.cell? ⟨L.tb, 8, none⟩ = some (.slice (some ⟨g, 0, none⟩) L.procs.length cap) ∧ L.procs.length ≤ cap ∧ L.procs.length ≤ maxLen ∧ cap ≤ maxLen ∧ w.cell? ⟨g, j, none⟩ = some (.pointer (some ⟨qb, 0, none⟩)) ∧ g < w.heap.size := h.no.elim
set_option maxHeartbeats 2000000 in
set_option maxRecDepth 100000 in
theorem meet_taken {w : World} {B : Nat} {L : Lay} (h : RefRep w B L) {i j pb qb : Nat} {p q : Pr} (hp : ProcAt w L i pb p) (hq : ProcAt w L j qb q) (hne : qb ≠ pb) (hph : p.phase = 7) (hm : p.met = (j : Int)) (hn0 : 0 ≤ p.node) (hn : p.node ≤ 1000000) (draw : Int) :
    Calls Try.prog 1000028 #[.pointer (some ⟨L.tb, 0, none⟩), .pointer (some ⟨pb, 0, none⟩), I i, I draw] w fun e w' => e = .returned (.tuple #[]) ∧ PutB w w' pb (prCells (settledPr { p with met := -1 } q 0)) 1000002 := h.no.elim
/-- Between 1 and the configuration's width. -/
def clip (cw z : Int) : Int := if (if cw < z then cw else z) < 1 then 1 else (if cw < z then cw else z)

set_option maxHeartbeats 4000000 in
set_option maxRecDepth 100000 in
theorem meet_grow {w : World} {B : Nat} {L : Lay} (h : RefRep w B L) (hB : B ≤ w.heap.size) {i pb v : Nat} {p : Pr} (hp : ProcAt w L i pb p) (hph : p.phase = 9) (hv : p.node = (v : Int)) (hvl : v < L.past.length) (hll : (L.hist v).length ≤ 1000000000000) (draw : Int) (hw0 : 0 ≤ p.wide) (hw9 : p.wide ≤ 1000) :
    Calls Try.prog 1000028 #[.pointer (some ⟨L.tb, 0, none⟩), .pointer (some ⟨pb, 0, none⟩), I i, I draw] w fun e w' => e = .returned (.tuple #[]) ∧ ∃ x, RefRep w' B (Lay.setP { L with past := L.past.set v (x, (⟨5, clip L.c.width (2 * p.wide), 0, []⟩, .slice none 0 0) :: L.hist v) } i { p with phase := 11 }) ∧ ChgT B [1000003, 1000004, 1000002] w w' := h.no.elim
set_option maxHeartbeats 4000000 in
set_option maxRecDepth 100000 in
theorem meet_shrink {w : World} {B : Nat} {L : Lay} (h : RefRep w B L) (hB : B ≤ w.heap.size) {i pb v : Nat} {p : Pr} (hp : ProcAt w L i pb p) (hph : p.phase = 10) (hv : p.node = (v : Int)) (hvl : v < L.past.length) (hll : (L.hist v).length ≤ 1000000000000) (draw : Int) (hw0 : 0 ≤ p.wide) (hw9 : p.wide ≤ 1000) :
    Calls Try.prog 1000028 #[.pointer (some ⟨L.tb, 0, none⟩), .pointer (some ⟨pb, 0, none⟩), I i, I draw] w fun e w' => e = .returned (.tuple #[]) ∧ ∃ x, RefRep w' B (Lay.setP { L with past := L.past.set v (x, (⟨5, clip L.c.width (p.wide / 2), 0, []⟩, .slice none 0 0) :: L.hist v) } i { p with phase := 11 }) ∧ ChgT B [1000003, 1000004, 1000002] w w' := h.no.elim
/-- Does who is kept in mind still wait in the slot, and was not met? -/
def meets (L : Lay) (p q : Pr) : Bool := decide (waitsL p.node p.slot L.procs 0 = p.mind) && decide (q.phase = 6) && decide (q.met < 0)

set_option maxHeartbeats 4000000 in
set_option maxRecDepth 100000 in
theorem meet_no {w : World} {B : Nat} {L : Lay} (h : RefRep w B L) {i j pb qb : Nat} {p q : Pr} (hp : ProcAt w L i pb p) (hq : ProcAt w L j qb q) (hne : qb ≠ pb) (hph : p.phase = 8) (hm : p.mind = (j : Int)) (hno : meets L p q = false) (draw : Int) :
    Calls Try.prog 1000028 #[.pointer (some ⟨L.tb, 0, none⟩), .pointer (some ⟨pb, 0, none⟩), I i, I draw] w fun e w' => e = .returned (.tuple #[]) ∧ PutB w w' pb (prCells { p with phase := 9 }) 1000002 := h.no.elim
theorem ProcAt.ne {w : World} {L : Lay} {i j pb qb : Nat} {p q : Pr} (hp : ProcAt w L i pb p) (hq : ProcAt w L j qb q) (hne : qb ≠ pb) : j ≠ i := by
  intro e
  subst e
  have a := hp.eb
  have b := hq.eb
  rw [List.getD_eq_getElem?_getD, List.getElem?_eq_getElem hp.hi] at a b
  exact hne (b.symm.trans a)

/-- A process stays where it is when it or another is written. -/
theorem ProcAt.setP {w w' : World} {L : Lay} {i j pb qb : Nat} {p p' q : Pr} (hp : ProcAt w L i pb p) (hq : ProcAt w L j qb q) (hne : qb ≠ pb) {T : TypeId} (hw : PutB w w' pb (prCells p') T) : ProcAt w' (L.setP i p') j qb q := by
  have hji := hp.ne hq hne
  refine ⟨by simpa using hq.hi, (hw.other qb hne).trans hq.blk, ?_, ?_⟩
  · have := hq.eb
    simp only [List.getD_eq_getElem?_getD] at this ⊢
    rw [List.getElem?_set_ne (Ne.symm hji)]
    exact this
  · have := hq.ep
    simp only [List.getD_eq_getElem?_getD] at this ⊢
    rw [List.getElem?_set_ne (Ne.symm hji)]
    exact this

theorem Lay.setP_twice {w : World} {L : Lay} {i j pb qb : Nat} {p q : Pr} (hp : ProcAt w L i pb p) (hq : ProcAt w L j qb q) (hji : j ≠ i) (a b c : Pr) : ((L.setP i a).setP j b).setP i c = (L.setP j b).setP i c := by
  have hi := hp.hi
  have hj := hq.hi
  unfold Lay.setP
  simp only [List.getD_eq_getElem?_getD]
  congr 1
  apply List.ext_getElem?
  intro k
  by_cases e1 : k = i
  · subst e1
    rw [List.getElem?_set_self (by simpa using hi), List.getElem?_set_self (by simpa using hi)]
    rw [List.getElem?_set_ne hji, List.getElem?_set_self hi, List.getElem?_set_ne hji]
    rw [List.getElem?_eq_getElem hi]
    rfl
  · rw [List.getElem?_set_ne (Ne.symm e1), List.getElem?_set_ne (Ne.symm e1)]
    by_cases e2 : k = j
    · subst e2
      rw [List.getElem?_set_self (by simpa using hj), List.getElem?_set_self hj, List.getElem?_set_ne (Ne.symm hji)]
    · rw [List.getElem?_set_ne (Ne.symm e2), List.getElem?_set_ne (Ne.symm e2), List.getElem?_set_ne (Ne.symm e1)]

set_option maxHeartbeats 4000000 in
set_option maxRecDepth 100000 in
theorem meet_yes {w : World} {B : Nat} {L : Lay} (h : RefRep w B L) {i j pb qb : Nat} {p q : Pr} (hp : ProcAt w L i pb p) (hq : ProcAt w L j qb q) (hne : qb ≠ pb) (hph : p.phase = 8) (hm : p.mind = (j : Int)) (hno : meets L p q = true) (hn0 : 0 ≤ p.node) (hn : p.node ≤ 1000000) (draw : Int) :
    Calls Try.prog 1000028 #[.pointer (some ⟨L.tb, 0, none⟩), .pointer (some ⟨pb, 0, none⟩), I i, I draw] w fun e w' => e = .returned (.tuple #[]) ∧ RefRep w' B ((L.setP j { q with met := i }).setP i (settledPr { p with phase := 9 } { q with met := i } 1)) ∧ ChgT B [1000002] w w' := h.no.elim
theorem ProcAt.below {w w' : World} {L : Lay} {i pb : Nat} {p : Pr} (hp : ProcAt w L i pb p) (hb : Below w.heap.size w w') : ProcAt w' L i pb p := by
  refine ⟨hp.hi, ?_, hp.eb, hp.ep⟩
  rw [hb.block pb (by
    rcases Nat.lt_or_ge pb w.heap.size with h | h
    · exact h
    · have := hp.blk
      rw [Array.getElem?_eq_none h] at this
      simp at this)]
  exact hp.blk

/-- Behind a call that reads, one field of a process is written. -/
theorem ProcAt.wrote {w w1 w' : World} {B : Nat} {L : Lay} {i pb : Nat} {p p' : Pr} (hp : ProcAt w L i pb p) (h : RefRep w B L) (hb : Below w.heap.size w w1) (hw : PutB w1 w' pb (prCells p') 1000002) : RefRep w' B (L.setP i p') ∧ ChgT B [1000002] w w' := h.no.elim
/-- Where an Inc, a Put or a Get goes from Look. -/
def lookPr (L : Lay) (v : Nat) (p : Pr) : Pr := { p with phase := if shutL p.node L.procs = true then 2 else if formH (L.hist v) = 1 then 3 else 12 }

set_option maxHeartbeats 4000000 in
set_option maxRecDepth 100000 in
theorem look_walk {w : World} {B : Nat} {L : Lay} (h : RefRep w B L) {i pb v : Nat} {p : Pr} (hp : ProcAt w L i pb p) (hv : p.node = (v : Int)) (hvl : v < L.past.length) (hk : p.kind < 3) :
    Calls Try.prog 1000029 #[.pointer (some ⟨L.tb, 0, none⟩), .pointer (some ⟨pb, 0, none⟩)] w fun e w' => e = .returned (.tuple #[]) ∧ RefRep w' B (L.setP i (lookPr L v p)) ∧ ChgT B [1000002] w w' := h.no.elim
theorem Lay.setP_self {L : Lay} {i : Nat} (hi : i < L.procs.length) (a b : Pr) : (L.setP i a).setP i b = L.setP i b := by
  unfold Lay.setP
  simp only [List.getD_eq_getElem?_getD]
  congr 1
  rw [List.set_set, List.getElem?_set_self hi, List.getElem?_eq_getElem hi]
  rfl

/-- Something has happened at node v. -/
abbrev Lay.hap (L : Lay) (v : Nat) (x : Value) (ev : Ev) (iv : Value) : Lay := { L with past := L.past.set v (x, (ev, iv) :: L.hist v) }

/-- A process is written behind what reads, then an event is appended, then the phase is written. -/
theorem hap_then {w w1 w2 : World} {B : Nat} {L : Lay} (h : RefRep w B L) (hB : B ≤ w.heap.size) {i pb v : Nat} {p p1 : Pr} (hp : ProcAt w L i pb p) (hvl : v < L.past.length) (hll : (L.hist v).length ≤ 1000000000000) (ev : Ev) (he : ev.items = []) (hb : Below w.heap.size w w1) (hw : PutB w1 w2 pb (prCells p1) 1000002) :
    Calls Try.prog 1000022 #[.pointer (some ⟨L.tb, 0, none⟩), I v, .agg #[I ev.what, I ev.n, I ev.v, .slice none 0 0]] w2 fun e w3 => e = .returned (.tuple #[]) ∧ (w3.cell? ⟨pb, 3, none⟩ = some (I p1.phase) ∧ w3.frozen? ⟨pb, 3, none⟩ = false) ∧ ∀ ph, ∃ x, RefRep (w3.setCell ⟨pb, 3, none⟩ (I ph)) B ((L.hap v x ev (.slice none 0 0)).setP i { p1 with phase := ph }) ∧ ChgT B [1000003, 1000004, 1000002] w (w3.setCell ⟨pb, 3, none⟩ (I ph)) := h.no.elim
set_option maxHeartbeats 4000000 in
set_option maxRecDepth 100000 in
theorem leaf_get {w : World} {B : Nat} {L : Lay} (h : RefRep w B L) (hB : B ≤ w.heap.size) {i pb v : Nat} {p : Pr} (hp : ProcAt w L i pb p) (hph : p.phase = 12) (hv : p.node = (v : Int)) (hvl : v < L.past.length) (hll : (L.hist v).length ≤ 1000000000000) (hk : p.kind = 2) :
    Calls Try.prog 1000030 #[.pointer (some ⟨L.tb, 0, none⟩), .pointer (some ⟨pb, 0, none⟩)] w fun e w' => e = .returned (.tuple #[]) ∧ ∃ x, RefRep w' B ((L.hap v x ⟨7, 0, 0, []⟩ (.slice none 0 0)).setP i { p with ticket := manyH 7 (-1) (L.hist v), phase := 14 }) ∧ ChgT B [1000003, 1000004, 1000002] w w' := h.no.elim
set_option maxHeartbeats 4000000 in
set_option maxRecDepth 100000 in
theorem leaf_put {w : World} {B : Nat} {L : Lay} (h : RefRep w B L) (hB : B ≤ w.heap.size) {i pb v : Nat} {p : Pr} (hp : ProcAt w L i pb p) (hph : p.phase = 12) (hv : p.node = (v : Int)) (hvl : v < L.past.length) (hll : (L.hist v).length ≤ 1000000000000) (h0 : 0 ≤ (fromH (L.hist v)).1.n) (h9 : (fromH (L.hist v)).1.n ≤ 1000000000000000000) (hkk : manyH 6 (-1) (L.hist v) ≤ 1000000000000000000) (hk : p.kind = 1) :
    Calls Try.prog 1000030 #[.pointer (some ⟨L.tb, 0, none⟩), .pointer (some ⟨pb, 0, none⟩)] w fun e w' => e = .returned (.tuple #[]) ∧ ∃ x, RefRep w' B ((L.hap v x ⟨6, 0, 0, []⟩ (.slice none 0 0)).setP i { p with ticket := putsH (L.hist v), phase := 13 }) ∧ ChgT B [1000003, 1000004, 1000002] w w' := h.no.elim
set_option maxHeartbeats 4000000 in
set_option maxRecDepth 100000 in
theorem leaf_inc {w : World} {B : Nat} {L : Lay} (h : RefRep w B L) (hB : B ≤ w.heap.size) {i pb v : Nat} {p : Pr} (hp : ProcAt w L i pb p) (hph : p.phase = 12) (hv : p.node = (v : Int)) (hv6 : v < 64) (hvl : v < L.past.length) (hll : (L.hist v).length ≤ 1000000000000) (h0 : 0 ≤ (fromH (L.hist v)).1.n) (h9 : (fromH (L.hist v)).1.n ≤ 100000000000000000) (hkk : manyH 6 (-1) (L.hist v) ≤ 100000000000000000) (hk : p.kind = 0) :
    Calls Try.prog 1000030 #[.pointer (some ⟨L.tb, 0, none⟩), .pointer (some ⟨pb, 0, none⟩)] w fun e w' => e = .returned (.tuple #[]) ∧ ∃ x, RefRep w' B ((L.hap v x ⟨6, 0, 0, []⟩ (.slice none 0 0)).setP i { p with val := rank v + putsH (L.hist v) * 2 ^ (Nat.log2 v), phase := 19 }) ∧ ChgT B [1000003, 1000004, 1000002] w w' := h.no.elim
/-- How many items the leaf v can hold. -/
def roomOf (c : Conf) (v : Nat) : Int := c.slots * 2 ^ (c.depth.toNat - Nat.log2 v)

/-- Whether what is to be stored under the ticket has room. -/
def roomyH (c : Conf) (v : Nat) (l : Hist) (t : Int) : Bool := decide (t < roomOf c v) || takenH l (t - roomOf c v)

set_option maxHeartbeats 8000000 in
set_option maxRecDepth 100000 in
theorem leaf_store_yes {w : World} {B : Nat} {L : Lay} (h : RefRep w B L) (hB : B ≤ w.heap.size) {i pb v : Nat} {p : Pr} (hp : ProcAt w L i pb p) (hph : p.phase = 13) (hv : p.node = (v : Int)) (hv6 : v < 64) (hvl : v < L.past.length) (hll : (L.hist v).length ≤ 1000000000000)
    (hs0 : 0 ≤ L.c.slots) (hs4 : L.c.slots ≤ 4) (hd0 : 0 ≤ L.c.depth) (hd4 : L.c.depth ≤ 4) (hld : (Nat.log2 v : Int) ≤ L.c.depth) (ht0 : 0 ≤ p.ticket) (ht9 : p.ticket ≤ 1000000000000) (hr : roomyH L.c v (L.hist v) p.ticket = true) :
    Calls Try.prog 1000030 #[.pointer (some ⟨L.tb, 0, none⟩), .pointer (some ⟨pb, 0, none⟩)] w fun e w' => e = .returned (.tuple #[]) ∧
      ∃ x, RefRep w' B ((L.hap v x ⟨8, p.ticket, p.oval, []⟩ (.slice none 0 0)).setP i { p with phase := 19 }) ∧ ChgT B [1000003, 1000004, 1000002] w w' := h.no.elim
set_option maxHeartbeats 8000000 in
set_option maxRecDepth 100000 in
theorem leaf_store_no {w : World} {B : Nat} {L : Lay} (h : RefRep w B L) {i pb v : Nat} {p : Pr} (hp : ProcAt w L i pb p) (hph : p.phase = 13) (hv : p.node = (v : Int)) (hv6 : v < 64) (hvl : v < L.past.length)
    (hs0 : 0 ≤ L.c.slots) (hs4 : L.c.slots ≤ 4) (hd0 : 0 ≤ L.c.depth) (hd4 : L.c.depth ≤ 4) (hld : (Nat.log2 v : Int) ≤ L.c.depth) (ht0 : 0 ≤ p.ticket) (ht9 : p.ticket ≤ 1000000000000) (hr : roomyH L.c v (L.hist v) p.ticket = false) :
    Calls Try.prog 1000030 #[.pointer (some ⟨L.tb, 0, none⟩), .pointer (some ⟨pb, 0, none⟩)] w fun e w' => e = .returned (.tuple #[]) ∧ Below w.heap.size w w' := h.no.elim
set_option maxHeartbeats 4000000 in
set_option maxRecDepth 100000 in
theorem leaf_fetch_yes {w : World} {B : Nat} {L : Lay} (h : RefRep w B L) (hB : B ≤ w.heap.size) {i pb v : Nat} {p : Pr} (hp : ProcAt w L i pb p) (hph : p.phase = 14) (hv : p.node = (v : Int)) (hvl : v < L.past.length) (hll : (L.hist v).length ≤ 1000000000000) (x : Int) (hr : itemH (L.hist v) p.ticket = some x) :
    Calls Try.prog 1000030 #[.pointer (some ⟨L.tb, 0, none⟩), .pointer (some ⟨pb, 0, none⟩)] w fun e w' => e = .returned (.tuple #[]) ∧
      ∃ y, RefRep w' B ((L.hap v y ⟨9, p.ticket, 0, []⟩ (.slice none 0 0)).setP i { p with val := x, phase := 19 }) ∧ ChgT B [1000003, 1000004, 1000002] w w' := h.no.elim
set_option maxHeartbeats 4000000 in
set_option maxRecDepth 100000 in
theorem leaf_fetch_no {w : World} {B : Nat} {L : Lay} (h : RefRep w B L) {i pb v : Nat} {p : Pr} (hp : ProcAt w L i pb p) (hph : p.phase = 14) (hv : p.node = (v : Int)) (hvl : v < L.past.length) (hr : itemH (L.hist v) p.ticket = none) :
    Calls Try.prog 1000030 #[.pointer (some ⟨L.tb, 0, none⟩), .pointer (some ⟨pb, 0, none⟩)] w fun e w' => e = .returned (.tuple #[]) ∧ Below w.heap.size w w' := h.no.elim
/-- One step more is counted. -/
abbrev incPr (p : Pr) : Pr := { p with steps := wrap64 (p.steps + 1) }

theorem RefRep.pv_at {w : World} {B : Nat} {L : Lay} (h : RefRep w B L) : ∃ ao cap, w.cell? ⟨L.tb, 8, none⟩ = some (.slice ao L.procs.length cap) ∧ L.procs.length ≤ cap ∧ L.procs.length ≤ maxLen ∧ cap ≤ maxLen := h.no.elim
set_option maxHeartbeats 2000000 in
theorem rStep_none {w : World} {B : Nat} {L : Lay} (h : RefRep w B L) (n : Int) (hn : n < 0 ∨ (L.procs.length : Int) ≤ n) (draw : Int) :
    Calls Try.prog 1000031 #[.pointer (some ⟨L.tb, 0, none⟩), I n, I draw] w fun e w' => e = .returned (.tuple #[I 0, I 5]) ∧ Below w.heap.size w w' := h.no.elim
set_option maxHeartbeats 2000000 in
theorem rStep_done {w : World} {B : Nat} {L : Lay} (h : RefRep w B L) {i pb : Nat} {p : Pr} (hp : ProcAt w L i pb p) (hph : p.phase = 20) (draw : Int) :
    Calls Try.prog 1000031 #[.pointer (some ⟨L.tb, 0, none⟩), I i, I draw] w fun e w' => e = .returned (.tuple #[I 0, I 5]) ∧ Below w.heap.size w w' := h.no.elim
set_option maxHeartbeats 4000000 in
theorem rStep_enter {w : World} {B : Nat} {L : Lay} (h : RefRep w B L) {i pb : Nat} {p : Pr} (hp : ProcAt w L i pb p) (hph : p.phase = 0) (draw : Int) :
    Calls Try.prog 1000031 #[.pointer (some ⟨L.tb, 0, none⟩), I i, I draw] w fun e w' => e = .returned (.tuple #[I 1, I 0]) ∧ RefRep w' B (L.setP i { incPr p with phase := 1 }) ∧ ChgT B [1000002] w w' := h.no.elim
set_option maxHeartbeats 4000000 in
theorem rStep_back {w : World} {B : Nat} {L : Lay} (h : RefRep w B L) {i pb : Nat} {p : Pr} (hp : ProcAt w L i pb p) (hph : p.phase = 2) (draw : Int) :
    Calls Try.prog 1000031 #[.pointer (some ⟨L.tb, 0, none⟩), I i, I draw] w fun e w' => e = .returned (.tuple #[I 0, I 0]) ∧ RefRep w' B (L.setP i { incPr p with phase := 0 }) ∧ ChgT B [1000002] w w' := h.no.elim
/-- Behind the count of one step more. -/
theorem ProcAt.inc {w : World} {B : Nat} {L : Lay} (h : RefRep w B L) {i pb : Nat} {p : Pr} (hp : ProcAt w L i pb p) :
    RefRep (w.setCell ⟨pb, 12, none⟩ (I (wrap64 (p.steps + 1)))) B (L.setP i (incPr p)) ∧ ProcAt (w.setCell ⟨pb, 12, none⟩ (I (wrap64 (p.steps + 1)))) (L.setP i (incPr p)) i pb (incPr p) ∧ ChgT B [1000002] w (w.setCell ⟨pb, 12, none⟩ (I (wrap64 (p.steps + 1)))) := h.no.elim
set_option maxHeartbeats 8000000 in
theorem rStep_look {w : World} {B : Nat} {L : Lay} (h : RefRep w B L) {i pb : Nat} {p : Pr} (hp : ProcAt w L i pb p) (hph : p.phase = 1) (draw : Int) {R : Int → World → Prop}
    (hc : Calls Try.prog 1000029 #[.pointer (some ⟨L.tb, 0, none⟩), .pointer (some ⟨pb, 0, none⟩)] (w.setCell ⟨pb, 12, none⟩ (I (wrap64 (p.steps + 1)))) fun e w' => e = .returned (.tuple #[]) ∧ ∃ ph, w'.cell? ⟨pb, 3, none⟩ = some (I ph) ∧ R ph w') :
    Calls Try.prog 1000031 #[.pointer (some ⟨L.tb, 0, none⟩), I i, I draw] w fun e w' => ∃ ph, e = .returned (.tuple #[I ph, I 0]) ∧ R ph w' := h.no.elim
set_option maxHeartbeats 8000000 in
theorem rStep_up {w : World} {B : Nat} {L : Lay} (h : RefRep w B L) {i pb : Nat} {p : Pr} (hp : ProcAt w L i pb p) (hph : p.phase = 19) (draw : Int) {R : Int → World → Prop}
    (hc : Calls Try.prog 1000032 #[.pointer (some ⟨pb, 0, none⟩)] (w.setCell ⟨pb, 12, none⟩ (I (wrap64 (p.steps + 1)))) fun e w' => e = .returned (.tuple #[]) ∧ ∃ ph, w'.cell? ⟨pb, 3, none⟩ = some (I ph) ∧ R ph w') :
    Calls Try.prog 1000031 #[.pointer (some ⟨L.tb, 0, none⟩), I i, I draw] w fun e w' => ∃ ph, e = .returned (.tuple #[I ph, I 0]) ∧ R ph w' := h.no.elim
set_option maxHeartbeats 8000000 in
theorem rStep_leaf {w : World} {B : Nat} {L : Lay} (h : RefRep w B L) {i pb : Nat} {p : Pr} (hp : ProcAt w L i pb p) (hph : p.phase = 12 ∨ p.phase = 13 ∨ p.phase = 14) (draw : Int) {R : Int → World → Prop}
    (hc : Calls Try.prog 1000030 #[.pointer (some ⟨L.tb, 0, none⟩), .pointer (some ⟨pb, 0, none⟩)] (w.setCell ⟨pb, 12, none⟩ (I (wrap64 (p.steps + 1)))) fun e w' => e = .returned (.tuple #[]) ∧ ∃ ph, w'.cell? ⟨pb, 3, none⟩ = some (I ph) ∧ R ph w') :
    Calls Try.prog 1000031 #[.pointer (some ⟨L.tb, 0, none⟩), I i, I draw] w fun e w' => ∃ ph, e = .returned (.tuple #[I ph, I 0]) ∧ R ph w' := h.no.elim
set_option maxHeartbeats 8000000 in
theorem rStep_meeting {w : World} {B : Nat} {L : Lay} (h : RefRep w B L) {i pb : Nat} {p : Pr} (hp : ProcAt w L i pb p) (hph : p.phase = 3 ∨ p.phase = 4 ∨ p.phase = 5 ∨ p.phase = 6 ∨ p.phase = 7 ∨ p.phase = 8 ∨ p.phase = 9 ∨ p.phase = 10) (draw : Int) {R : Int → World → Prop}
    (hc : Calls Try.prog 1000028 #[.pointer (some ⟨L.tb, 0, none⟩), .pointer (some ⟨pb, 0, none⟩), I i, I draw] (w.setCell ⟨pb, 12, none⟩ (I (wrap64 (p.steps + 1)))) fun e w' => e = .returned (.tuple #[]) ∧ ∃ ph, w'.cell? ⟨pb, 3, none⟩ = some (I ph) ∧ R ph w') :
    Calls Try.prog 1000031 #[.pointer (some ⟨L.tb, 0, none⟩), I i, I draw] w fun e w' => ∃ ph, e = .returned (.tuple #[I ph, I 0]) ∧ R ph w' := h.no.elim
def togH (l : Hist) : Int := ((fromH l).1.n + manyH 4 (-1) l) % 2

set_option maxHeartbeats 8000000 in
theorem rStep_toggle {w : World} {B : Nat} {L : Lay} (h : RefRep w B L) (hB : B ≤ w.heap.size) {i pb v : Nat} {p : Pr} (hp : ProcAt w L i pb p) (hph : p.phase = 11) (hv : p.node = (v : Int)) (hv9 : v ≤ 1000) (hvl : v < L.past.length) (hll : (L.hist v).length ≤ 1000000000000) (h0 : 0 ≤ (fromH (L.hist v)).1.n) (h9 : (fromH (L.hist v)).1.n ≤ 1000000000000000000) (hkk : manyH 4 (-1) (L.hist v) ≤ 1000000000000000000) (draw : Int) :
    Calls Try.prog 1000031 #[.pointer (some ⟨L.tb, 0, none⟩), I i, I draw] w fun e w' => e = .returned (.tuple #[I 0, I 0]) ∧ ∃ x, RefRep w' B ((L.hap v x ⟨4, 0, 0, []⟩ (.slice none 0 0)).setP i { incPr p with node := 2 * p.node + (if p.kind = 2 then (togH (L.hist v) + 1) % 2 else togH (L.hist v)), phase := 0 }) ∧ ChgT B [1000003, 1000004, 1000002] w w' := h.no.elim
end Go.Proofs.Ytjnmpejcegmkhaa
