/- Contracts of package prismref's look of a Fold or an Unfold, and of its change in the phases Shut, Drain and Reopen. Contracts of package prismref's fold and unfold. Contract of package prismref's unfold. Contracts of package prismref's change in the phase Change, and of its Step in the phases Shut, Drain, Change, Reopen. No statement of the seat is proved here. -/
import Derived.Test.YtjnmpejcegmkhaaRefStA
import Derived.Deep.AppendLies
namespace Go.Proofs.Ytjnmpejcegmkhaa
open Go.RowKit
set_option linter.unusedVariables false

/-- Where a Fold or an Unfold goes from Look. -/
def lookCh (L : Lay) (v : Nat) (p : Pr) : Pr :=
  if shutL p.node L.procs = true then { p with phase := 2 }
  else if formH (L.hist v) = 2 then { p with val := 2, phase := 19 }
  else { p with node := ((p.onode.toNat / 2 ^ (Nat.log2 p.onode.toNat - Nat.log2 v - 1) : Nat) : Int), phase := if Nat.log2 p.onode.toNat - Nat.log2 v = 1 then 15 else 0 }

set_option maxHeartbeats 4000000 in
set_option maxRecDepth 100000 in
theorem look_shut {w : World} {B : Nat} {L : Lay} (h : RefRep w B L) {i pb v : Nat} {p : Pr} (hp : ProcAt w L i pb p) (hv : p.node = (v : Int)) (hvl : v < L.past.length) (hsh : shutL p.node L.procs = true) :
    Calls Try.prog 1000029 #[.pointer (some ⟨L.tb, 0, none⟩), .pointer (some ⟨pb, 0, none⟩)] w fun e w' => e = .returned (.tuple #[]) ∧ RefRep w' B (L.setP i { p with phase := 2 }) ∧ ChgT B [1000002] w w' := h.no.elim
set_option maxHeartbeats 4000000 in
set_option maxRecDepth 100000 in
theorem look_not {w : World} {B : Nat} {L : Lay} (h : RefRep w B L) {i pb v : Nat} {p : Pr} (hp : ProcAt w L i pb p) (hv : p.node = (v : Int)) (hvl : v < L.past.length) (hk : p.kind = 3 ∨ p.kind = 4) (hsh : shutL p.node L.procs = false) (hf2 : formH (L.hist v) = 2) :
    Calls Try.prog 1000029 #[.pointer (some ⟨L.tb, 0, none⟩), .pointer (some ⟨pb, 0, none⟩)] w fun e w' => e = .returned (.tuple #[]) ∧ RefRep w' B (L.setP i { p with val := 2, phase := 19 }) ∧ ChgT B [1000002] w w' := h.no.elim
set_option maxHeartbeats 4000000 in
set_option maxRecDepth 100000 in
theorem look_down {w : World} {B : Nat} {L : Lay} (h : RefRep w B L) {i pb v o : Nat} {p : Pr} (hp : ProcAt w L i pb p) (hv : p.node = (v : Int)) (hvl : v < L.past.length) (hv6 : v < 64) (ho : p.onode = (o : Int)) (ho6 : o < 64) (hlt : Nat.log2 v < Nat.log2 o) (hk : p.kind = 3 ∨ p.kind = 4) (hsh : shutL p.node L.procs = false) (hf2 : formH (L.hist v) = 1) :
    Calls Try.prog 1000029 #[.pointer (some ⟨L.tb, 0, none⟩), .pointer (some ⟨pb, 0, none⟩)] w fun e w' => e = .returned (.tuple #[]) ∧ RefRep w' B (L.setP i { p with node := ((o / 2 ^ (Nat.log2 o - Nat.log2 v - 1) : Nat) : Int), phase := if Nat.log2 o - Nat.log2 v = 1 then 15 else 0 }) ∧ ChgT B [1000002] w w' := h.no.elim
/-- What Shut, Drain and Reopen make of a Fold or an Unfold. -/
def shutCh (L : Lay) (v : Nat) (p : Pr) : Pr := if shutL p.node L.procs = true ∨ decide (formH (L.hist v) = 1) ≠ decide (p.kind = 3) then upPr { p with val := 2 } else { p with pat := L.c.drain, phase := 16 }
def drainCh (L : Lay) (v : Nat) (p : Pr) : Pr := if insideL v L.procs = 0 then { p with phase := 17 } else if 0 < p.pat then { p with pat := p.pat - 1 } else { p with phase := 18 }

set_option maxHeartbeats 4000000 in
set_option maxRecDepth 100000 in
theorem change_shut {w : World} {B : Nat} {L : Lay} (h : RefRep w B L) {i pb v : Nat} {p : Pr} (hp : ProcAt w L i pb p) (hph : p.phase = 15) (hv : p.node = (v : Int)) (hv9 : v ≤ 1000) (hvl : v < L.past.length) :
    Calls Try.prog 1000033 #[.pointer (some ⟨L.tb, 0, none⟩), .pointer (some ⟨pb, 0, none⟩)] w fun e w' => e = .returned (.tuple #[]) ∧ PutB w w' pb (prCells (shutCh L v p)) 1000002 := h.no.elim
set_option maxHeartbeats 4000000 in
set_option maxRecDepth 100000 in
theorem change_drain {w : World} {B : Nat} {L : Lay} (h : RefRep w B L) (hok : ∀ i, (hi : i < L.procs.length) → NodeOk (L.procs[i]).2) {i pb v : Nat} {p : Pr} (hp : ProcAt w L i pb p) (hph : p.phase = 16) (hv : p.node = (v : Int)) (hp9 : p.pat ≤ 1000000) :
    Calls Try.prog 1000033 #[.pointer (some ⟨L.tb, 0, none⟩), .pointer (some ⟨pb, 0, none⟩)] w fun e w' => e = .returned (.tuple #[]) ∧ PutB w w' pb (prCells (drainCh L v p)) 1000002 := h.no.elim
/-- One of each in turn, as long as there is one. -/
def altF : Nat → List Int → List Int → List Int
  | 0, _, _ => []
  | _ + 1, [], _ => []
  | f + 1, a :: x, y => a :: altF f y x
def alt (x y : List Int) : List Int := altF (x.length + y.length) x y
theorem altF_le : ∀ (f : Nat) (x y : List Int), (altF f x y).length ≤ x.length + y.length
  | 0, _, _ => by simp [altF]
  | _ + 1, [], _ => by simp [altF]
  | f + 1, a :: x, y => by
    have := altF_le f y x
    simp only [altF, List.length_cons]
    omega

/-- A slice that shows a list of numbers. -/
structure Shows (w : World) (v : Value) (l : List Int) (C : Nat) : Prop where
  ex : ∃ ao cap, v = .slice ao l.length cap ∧ l.length ≤ cap ∧ cap ≤ maxLen ∧ ∀ j, (hj : j < l.length) → ∃ g o, ao = some ⟨g, o, none⟩ ∧ g < C ∧ w.cell? ⟨g, o + j, none⟩ = some (I l[j])

theorem Shows.of_row {w : World} {b : Nat} {v : Value} {l : List Int} (h : w.ownsRow b 3 1 v l.length (l.map I)) : Shows w v l w.heap.size := by
  obtain ⟨ao, cap, e1, c1, c2, c3, h2⟩ := ownsRow_cells h
  refine ⟨ao, cap, e1, c1, c3, fun j hj => ?_⟩
  obtain ⟨g, e, _, c⟩ := h2 j (I l[j]) (by simp [hj])
  exact ⟨g, 0, e, cell_lt c, by rw [Nat.zero_add]; exact c⟩
theorem Shows.below {w w' : World} {v : Value} {l : List Int} {C : Nat} (h : Shows w v l C) (hb : Below C w w') : Shows w' v l C := by
  obtain ⟨ao, cap, e1, c1, c3, h2⟩ := h.ex
  refine ⟨ao, cap, e1, c1, c3, fun j hj => ?_⟩
  obtain ⟨g, o, e, hg, c⟩ := h2 j hj
  exact ⟨g, o, e, hg, (hb.cell (p := ⟨g, o + j, none⟩) hg).trans c⟩
theorem Shows.mono {w : World} {v : Value} {l : List Int} {C C' : Nat} (h : Shows w v l C) (hC : C ≤ C') : Shows w v l C' := by
  obtain ⟨ao, cap, e1, c1, c3, h2⟩ := h.ex
  refine ⟨ao, cap, e1, c1, c3, fun j hj => ?_⟩
  obtain ⟨g, o, e, hg, c⟩ := h2 j hj
  exact ⟨g, o, e, by omega, c⟩
theorem Shows.tail {w : World} {ao : Option Addr} {n cap : Nat} {a : Int} {l : List Int} {C : Nat} (h : Shows w (.slice ao n cap) (a :: l) C) : Shows w (.slice (if cap = 1 then ao else ao.map (·.add 1)) l.length (cap - 1)) l C := by
  obtain ⟨ao', cap', e1, c1, c3, h2⟩ := h.ex
  simp only [Value.slice.injEq] at e1
  obtain ⟨rfl, _, rfl⟩ := e1
  simp only [List.length_cons] at c1 h2
  refine ⟨_, _, rfl, by omega, by omega, fun j hj => ?_⟩
  obtain ⟨g, o, e, hg, c⟩ := h2 (j + 1) (by omega)
  subst e
  refine ⟨g, o + 1, ?_, hg, ?_⟩
  · rw [if_neg (by omega)]
    rfl
  · rw [show o + 1 + j = o + (j + 1) from by omega]
    simpa using c

def evT (l : List Int) (k : Nat) : List Int := (List.range k).filterMap fun i => if i % 2 = 0 then l[i]? else none
def odT (l : List Int) (k : Nat) : List Int := (List.range k).filterMap fun i => if i % 2 = 0 then none else l[i]?
theorem evT_even (l : List Int) (k : Nat) (hk : k < l.length) (h : k % 2 = 0) : evT l (k + 1) = evT l k ++ [l[k]] ∧ odT l (k + 1) = odT l k := by
  simp [evT, odT, List.range_succ, List.filterMap_append, h, hk]
theorem evT_odd (l : List Int) (k : Nat) (hk : k < l.length) (h : ¬ k % 2 = 0) : odT l (k + 1) = odT l k ++ [l[k]] ∧ evT l (k + 1) = evT l k := by
  have h' : k % 2 = 1 := by omega
  simp [evT, odT, List.range_succ, List.filterMap_append, h', hk]
theorem evT_le (l : List Int) (k : Nat) : (evT l k).length ≤ k ∧ (odT l k).length ≤ k := by
  constructor
  · exact Nat.le_trans (List.length_filterMap_le _ _) (by simp)
  · exact Nat.le_trans (List.length_filterMap_le _ _) (by simp)


def lenV : Value → Nat
  | .slice _ n _ => n
  | _ => 0

def foldN (L : Lay) (v : Nat) : Int := if L.c.kind = 0 then putsH (L.hist (2 * v)) + putsH (L.hist (2 * v + 1)) else ((alt (itemsH (L.hist (2 * v))) (itemsH (L.hist (2 * v + 1)))).length : Int)
abbrev Lay.folded (L : Lay) (v : Nat) (x1 x2 x3 iv : Value) : Lay :=
  ((L.hap (2 * v) x1 ⟨3, 0, 0, []⟩ (.slice none 0 0)).hap (2 * v + 1) x2 ⟨3, 0, 0, []⟩ (.slice none 0 0)).hap v x3 ⟨2, foldN L v, 0, alt (itemsH (L.hist (2 * v))) (itemsH (L.hist (2 * v + 1)))⟩ iv

theorem hap_hist (L : Lay) (v u : Nat) (x : Value) (ev : Ev) (iv : Value) (hv : v < L.past.length) (hne : u ≠ v) : (L.hap v x ev iv).hist u = L.hist u := by
  have := lay_hist_set L v x ((ev, iv) :: L.hist v) u hv
  rw [if_neg hne] at this
  exact this

set_option maxHeartbeats 4000000 in
set_option maxRecDepth 100000 in
theorem fold_c {w : World} {B : Nat} {L : Lay} (h : RefRep w B L) (hB : B ≤ w.heap.size) (v : Nat) (hv1 : 1 ≤ v) (hv : 2 * v + 1 < L.past.length) (h0 : ∀ u, u < L.past.length → 0 ≤ (fromH (L.hist u)).1.n) (h9 : ∀ u, u < L.past.length → putsH (L.hist u) ≤ 1000000) (hll : ∀ u, u < L.past.length → (L.hist u).length ≤ 1000000) (hm : L.past.length ≤ 1000) (hkd : L.c.kind = 0 ∨ L.c.kind = 1) :
    Calls Try.prog 1000034 #[.pointer (some ⟨L.tb, 0, none⟩), I v] w fun e w' => e = .returned (.tuple #[]) ∧ (∃ x1 x2 x3 iv, RefRep w' B (L.folded v x1 x2 x3 iv)) ∧ ChgT B [1000003, 1000004] w w' := h.no.elim
def unfN (L : Lay) (v : Nat) : Int := if L.c.kind = 0 then putsH (L.hist v) else ((itemsH (L.hist v)).length : Int)
abbrev Lay.unfolded (L : Lay) (v : Nat) (x1 x2 x3 i1 i2 : Value) : Lay :=
  ((L.hap v x1 ⟨1, unfN L v % 2, 0, []⟩ (.slice none 0 0)).hap (2 * v) x2 ⟨2, (unfN L v + 1) / 2, 0, evT (itemsH (L.hist v)) (itemsH (L.hist v)).length⟩ i1).hap (2 * v + 1) x3 ⟨2, unfN L v / 2, 0, odT (itemsH (L.hist v)) (itemsH (L.hist v)).length⟩ i2

set_option maxHeartbeats 4000000 in
set_option maxRecDepth 100000 in
theorem unfold_c {w : World} {B : Nat} {L : Lay} (h : RefRep w B L) (hB : B ≤ w.heap.size) (v : Nat) (hv1 : 1 ≤ v) (hv : 2 * v + 1 < L.past.length) (h0 : ∀ u, u < L.past.length → 0 ≤ (fromH (L.hist u)).1.n) (h9 : ∀ u, u < L.past.length → putsH (L.hist u) ≤ 1000000) (hll : ∀ u, u < L.past.length → (L.hist u).length ≤ 1000000) (hm : L.past.length ≤ 1000) (hkd : L.c.kind = 0 ∨ L.c.kind = 1) :
    Calls Try.prog 1000035 #[.pointer (some ⟨L.tb, 0, none⟩), I v] w fun e w' => e = .returned (.tuple #[]) ∧ (∃ x1 x2 x3 i1 i2, RefRep w' B (L.unfolded v x1 x2 x3 i1 i2)) ∧ ChgT B [1000003, 1000004] w w' := h.no.elim
set_option maxHeartbeats 8000000 in
theorem rStep_change {w : World} {B : Nat} {L : Lay} (h : RefRep w B L) {i pb : Nat} {p : Pr} (hp : ProcAt w L i pb p) (hph : p.phase = 15 ∨ p.phase = 16 ∨ p.phase = 17 ∨ p.phase = 18) (draw : Int) {R : Int → World → Prop}
    (hc : Calls Try.prog 1000033 #[.pointer (some ⟨L.tb, 0, none⟩), .pointer (some ⟨pb, 0, none⟩)] (w.setCell ⟨pb, 12, none⟩ (I (wrap64 (p.steps + 1)))) fun e w' => e = .returned (.tuple #[]) ∧ ∃ ph, w'.cell? ⟨pb, 3, none⟩ = some (I ph) ∧ R ph w') :
    Calls Try.prog 1000031 #[.pointer (some ⟨L.tb, 0, none⟩), I i, I draw] w fun e w' => ∃ ph, e = .returned (.tuple #[I ph, I 0]) ∧ R ph w' := h.no.elim
section
variable {w : World} {B : Nat} {L : Lay} {i pb v : Nat} {p : Pr}

/-- Behind what has happened at nodes the process is as it was, and ends. -/
theorem ends_then (hp : ProcAt w L i pb p) {w1 : World} {L1 : Lay} (hr1 : RefRep w1 B L1) (hch : ChgT B [1000003, 1000004] w w1) (hL1 : L1.procs = L.procs) (hv : p.node = (v : Int)) (hv9 : v ≤ 1000) (x : Int) :
    Calls Try.prog 1000036 #[.pointer (some ⟨pb, 0, none⟩), I x] w1 fun e w' => e = .returned (.tuple #[]) ∧ RefRep w' B (L1.setP i (upPr { p with val := x })) ∧ ChgT B [1000003, 1000004, 1000002] w w' := hr1.no.elim
set_option maxHeartbeats 4000000 in
theorem change_unfold (h : RefRep w B L) (hB : B ≤ w.heap.size) (hp : ProcAt w L i pb p) (hph : p.phase = 17) (hk : p.kind = 4) (hv : p.node = (v : Int)) (hv1 : 1 ≤ v) (hvl : 2 * v + 1 < L.past.length) (h0 : ∀ u, u < L.past.length → 0 ≤ (fromH (L.hist u)).1.n) (h9 : ∀ u, u < L.past.length → putsH (L.hist u) ≤ 1000000) (hll : ∀ u, u < L.past.length → (L.hist u).length ≤ 1000000) (hm : L.past.length ≤ 1000) (hkd : L.c.kind = 0 ∨ L.c.kind = 1) :
    Calls Try.prog 1000033 #[.pointer (some ⟨L.tb, 0, none⟩), .pointer (some ⟨pb, 0, none⟩)] w fun e w' => e = .returned (.tuple #[]) ∧ (∃ x1 x2 x3 i1 i2, RefRep w' B ((L.unfolded v x1 x2 x3 i1 i2).setP i (upPr { p with val := 1 }))) ∧ ChgT B [1000003, 1000004, 1000002] w w' := h.no.elim
set_option maxHeartbeats 4000000 in
theorem change_not (h : RefRep w B L) (hp : ProcAt w L i pb p) (hph : p.phase = 17) (hk : p.kind = 3) (hv : p.node = (v : Int)) (hvl : 2 * v + 1 < L.past.length) (hm : L.past.length ≤ 1000) (hin : formH (L.hist (2 * v)) = 1 ∨ formH (L.hist (2 * v + 1)) = 1) :
    Calls Try.prog 1000033 #[.pointer (some ⟨L.tb, 0, none⟩), .pointer (some ⟨pb, 0, none⟩)] w fun e w' => e = .returned (.tuple #[]) ∧ PutB w w' pb (prCells (upPr { p with val := 4 })) 1000002 := h.no.elim
set_option maxHeartbeats 4000000 in
theorem change_fold (h : RefRep w B L) (hB : B ≤ w.heap.size) (hp : ProcAt w L i pb p) (hph : p.phase = 17) (hk : p.kind = 3) (hv : p.node = (v : Int)) (hv1 : 1 ≤ v) (hvl : 2 * v + 1 < L.past.length) (h0 : ∀ u, u < L.past.length → 0 ≤ (fromH (L.hist u)).1.n) (h9 : ∀ u, u < L.past.length → putsH (L.hist u) ≤ 1000000) (hll : ∀ u, u < L.past.length → (L.hist u).length ≤ 1000000) (hm : L.past.length ≤ 1000) (hkd : L.c.kind = 0 ∨ L.c.kind = 1) (hi0 : formH (L.hist (2 * v)) ≠ 1) (hi1 : formH (L.hist (2 * v + 1)) ≠ 1) :
    Calls Try.prog 1000033 #[.pointer (some ⟨L.tb, 0, none⟩), .pointer (some ⟨pb, 0, none⟩)] w fun e w' => e = .returned (.tuple #[]) ∧ (∃ x1 x2 x3 iv, RefRep w' B ((L.folded v x1 x2 x3 iv).setP i (upPr { p with val := 1 }))) ∧ ChgT B [1000003, 1000004, 1000002] w w' := h.no.elim
end

end Go.Proofs.Ytjnmpejcegmkhaa
