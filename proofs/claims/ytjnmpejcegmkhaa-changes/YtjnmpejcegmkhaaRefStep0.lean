/- Contracts of package prismref's small functions that write a process: child, up, ends, settled; remainder. No statement of the seat is proved here. -/
import Derived.Test.YtjnmpejcegmkhaaRefSpawn
namespace Go.Proofs.Ytjnmpejcegmkhaa
open Go.RowKit

/-- Nothing but block b has turned; it holds cs now. -/
structure PutB (w w' : World) (b : Nat) (cs : Array Value) (T : TypeId) : Prop where
  os : w'.os = w.os
  tape : w'.tape = w.tape
  output : w'.output = w.output
  size : w'.heap.size = w.heap.size
  blk : w'.heap[b]? = some (.cells cs T (0, 0))
  other : ∀ k, k ≠ b → w'.heap[k]? = w.heap[k]?

theorem PutB.refl {w : World} {b : Nat} {cs : Array Value} {T : TypeId} (h : w.heap[b]? = some (.cells cs T (0, 0))) : PutB w w b cs T := ⟨rfl, rfl, rfl, rfl, h, fun _ _ => rfl⟩
theorem PutB.set {w0 w : World} {b : Nat} {cs : Array Value} {T : TypeId} (h : PutB w0 w b cs T) (j : Nat) (x : Value) : PutB w0 (w.setCell ⟨b, j, none⟩ x) b (cs.setIfInBounds j x) T :=
  ⟨h.os, h.tape, h.output, by simpa [World.setCell] using h.size, nb_set h.blk j x, fun k hk => by rw [Below.heap_setCell _ _ _ _ hk]; exact h.other k hk⟩
theorem PutB.drew {w0 w : World} {b : Nat} {cs : Array Value} {T : TypeId} (h : PutB w0 w b cs T) : PutB w0 w.drew b cs T := ⟨h.os, h.tape, h.output, h.size, h.blk, h.other⟩
theorem PutB.trans {w0 w w' : World} {b : Nat} {cs cs' : Array Value} {T : TypeId} (h : PutB w0 w b cs T) (k : PutB w w' b cs' T) : PutB w0 w' b cs' T :=
  ⟨k.os.trans h.os, k.tape.trans h.tape, k.output.trans h.output, k.size.trans h.size, k.blk, fun i hi => (k.other i hi).trans (h.other i hi)⟩
theorem PutB.chg {w w' : World} {b B : Nat} {cs : Array Value} {T : TypeId} {Ts : List TypeId} (h : PutB w w' b cs T) (hB : B ≤ b) {cs0 : Array Value} (h0 : w.heap[b]? = some (.cells cs0 T (0, 0))) (hT : T ∈ Ts) : ChgT B Ts w w' :=
  ⟨h.os, h.tape, h.output, Nat.le_of_eq h.size.symm, fun k _ hc => h.other k (by
    intro e
    subst e
    rcases hc with hc | hc
    · omega
    · exact hc _ _ _ h0 hT)⟩

abbrev Lay.setP (L : Lay) (i : Nat) (p : Pr) : Lay := { L with procs := L.procs.set i ((L.procs.getD i (0, p)).1, p) }

theorem RefRep.putP {w w' : World} {B : Nat} {L : Lay} (h : RefRep w B L) {i : Nat} (hi : i < L.procs.length) {p : Pr} (hp : PutB w w' (L.procs[i]).1 (prCells p) 128) : RefRep w' B (L.setP i p) := by
  have hc : ChgT B [128] w w' := hp.chg (h.pblk i hi).2 (h.pblk i hi).1 (by simp)
  have eg : (L.procs.getD i (0, p)).1 = (L.procs[i]).1 := by simp [List.getD_eq_getElem?_getD, List.getElem?_eq_getElem hi]
  have en : ∀ k, (hk : k < L.procs.length) → (hk' : k < (L.setP i p).procs.length) → ((L.setP i p).procs[k]).1 = (L.procs[k]).1 := by
    intro k hk hk'
    show ((L.procs.set i _)[k]).1 = _
    by_cases e : k = i
    · subst e; simp only [List.getElem_set_self]; exact eg
    · simp only [List.getElem_set_ne (Ne.symm e)]
  have el : (L.setP i p).procs.length = L.procs.length := by simp
  constructor
  · exact hc.at h.tree (by decide)
  · exact h.treeB
  · have := hc.row h.prow (by decide)
    have em : (L.setP i p).procs.map (fun p => Value.pointer (some ⟨p.1, 0, none⟩)) = L.procs.map (fun p => Value.pointer (some ⟨p.1, 0, none⟩)) := by
      apply List.ext_getElem
      · simp
      · intro k h1 h2
        simp only [List.getElem_map]
        rw [en k (by simpa using h2) (by simpa using h1)]
    rw [em, el]
    exact this
  · intro k hk
    have hk0 : k < L.procs.length := by rw [← el]; exact hk
    rw [en k hk0 hk]
    refine ⟨?_, (h.pblk k hk0).2⟩
    by_cases e : k = i
    · subst e
      have : ((L.setP k p).procs[k]).2 = p := by
        show ((L.procs.set k _)[k]).2 = _
        simp only [List.getElem_set_self]
      rw [this]
      exact hp.blk
    · have : ((L.setP i p).procs[k]).2 = (L.procs[k]).2 := by
        show ((L.procs.set i _)[k]).2 = _
        simp only [List.getElem_set_ne (Ne.symm e)]
      rw [this, hp.other _ (fun hh => e (h.pnd k i hk0 hi hh))]
      exact (h.pblk k hk0).1
  · intro a b ha hb e
    have ha0 : a < L.procs.length := by rw [← el]; exact ha
    have hb0 : b < L.procs.length := by rw [← el]; exact hb
    rw [en a ha0 ha, en b hb0 hb] at e
    exact h.pnd a b ha0 hb0 e
  · exact hc.row h.hrow (by decide)
  · exact fun k hk => hc.row (h.hist k hk) (by decide)
  · exact fun k hk y hy => hc.row (h.items k hk y hy) (by decide)
  · exact h.hnd

set_option maxHeartbeats 1000000 in
theorem child_c {w : World} {pb : Nat} {p : Pr} (h : w.heap[pb]? = some (.cells (prCells p) 128 (0, 0))) (hn0 : 0 ≤ p.node) (hn : p.node ≤ 1000000) (b : Int) (hb0 : 0 ≤ b) (hb : b ≤ 1) :
    Calls Try.prog 84 #[.pointer (some ⟨pb, 0, none⟩), I b] w fun e w' => e = .returned (.tuple #[]) ∧ PutB w w' pb (prCells { p with node := 2 * p.node + b, phase := 0 }) 128 := by
  obtain ⟨f1, f2⟩ := nb_facts h
  have c4 := f1 4
  have c3 := f1 3
  have HP : Hid (PutB w ((w.setCell ⟨pb, 4, none⟩ (I (2 * p.node + b))).setCell ⟨pb, 3, none⟩ (I 0)) pb (prCells { p with node := 2 * p.node + b, phase := 0 }) 128) := by
    show PutB _ _ _ _ _
    have := ((PutB.refl h).set 4 (I (2 * p.node + b))).set 3 (I 0)
    simpa [prCells, Array.setIfInBounds] using this
  simp only [prCells] at c3 c4
  simp at c3 c4
  clear h f1
  go_enter Try.func84, Try.ntmps84
  go_wp2
  go_end0
  exact ⟨rfl, HP.out⟩

def upPr (p : Pr) : Pr := { p with node := p.node / 2, phase := if p.node / 2 = 0 then 20 else 19 }

set_option maxHeartbeats 1000000 in
theorem up_c {w : World} {pb : Nat} {p : Pr} (h : w.heap[pb]? = some (.cells (prCells p) 128 (0, 0))) (hn0 : 0 ≤ p.node) (hn : p.node ≤ 1000000) :
    Calls Try.prog 85 #[.pointer (some ⟨pb, 0, none⟩)] w fun e w' => e = .returned (.tuple #[]) ∧ PutB w w' pb (prCells (upPr p)) 128 := by
  obtain ⟨f1, f2⟩ := nb_facts h
  have c4 := f1 4
  have c3 := f1 3
  simp only [prCells] at c3 c4
  simp at c3 c4
  by_cases hz : p.node / 2 = 0
  · have bz : (p.node / 2 == 0) = true := by simp [hz]
    have eu : prCells (upPr p) = #[I p.kind, I p.oval, I p.onode, I 20, I (p.node / 2), I p.val, I p.wide, I p.slot, I p.pat, I p.mind, I p.met, I p.ticket, I p.steps] := by unfold upPr; rw [if_pos hz]; rfl
    have HP : Hid (PutB w (((w.setCell ⟨pb, 4, none⟩ (I (p.node / 2))).setCell ⟨pb, 3, none⟩ (I 19)).setCell ⟨pb, 3, none⟩ (I 20)) pb (prCells (upPr p)) 128) := by
      show PutB _ _ _ _ _
      rw [eu]
      exact (((PutB.refl h).set 4 (I (p.node / 2))).set 3 (I 19)).set 3 (I 20)
    clear h f1 hz eu
    go_enter Try.func85, Try.ntmps85
    go_wp2
    go_end0
    exact ⟨rfl, HP.out⟩
  · have bz : (p.node / 2 == 0) = false := by simp [hz]
    have eu : prCells (upPr p) = #[I p.kind, I p.oval, I p.onode, I 19, I (p.node / 2), I p.val, I p.wide, I p.slot, I p.pat, I p.mind, I p.met, I p.ticket, I p.steps] := by unfold upPr; rw [if_neg hz]; rfl
    have HP : Hid (PutB w ((w.setCell ⟨pb, 4, none⟩ (I (p.node / 2))).setCell ⟨pb, 3, none⟩ (I 19)) pb (prCells (upPr p)) 128) := by
      show PutB _ _ _ _ _
      rw [eu]
      exact ((PutB.refl h).set 4 (I (p.node / 2))).set 3 (I 19)
    clear h f1 hz eu
    go_enter Try.func85, Try.ntmps85
    go_wp2
    go_end0
    exact ⟨rfl, HP.out⟩

set_option maxHeartbeats 1000000 in
theorem ends_c {w : World} {pb : Nat} {p : Pr} (h : w.heap[pb]? = some (.cells (prCells p) 128 (0, 0))) (hn0 : 0 ≤ p.node) (hn : p.node ≤ 1000000) (x : Int) :
    Calls Try.prog 114 #[.pointer (some ⟨pb, 0, none⟩), I x] w fun e w' => e = .returned (.tuple #[]) ∧ PutB w w' pb (prCells (upPr { p with val := x })) 128 := by
  obtain ⟨f1, f2⟩ := nb_facts h
  have c5 := f1 5
  simp only [prCells] at c5
  simp at c5
  have HP : PutB w (w.setCell ⟨pb, 5, none⟩ (I x)) pb (prCells { p with val := x }) 128 := by
    show PutB _ _ _ _ _
    have := (PutB.refl h).set 5 (I x)
    simpa [prCells, Array.setIfInBounds] using this
  have hu := up_c HP.blk hn0 hn
  replace HP : Hid _ := HP
  clear h f1
  go_enter Try.func114, Try.ntmps114
  go_wp2_with fail
  refine hu.mono ?_
  rintro e w1 ⟨rfl, hp1⟩
  go_wp2
  go_end0
  exact ⟨rfl, HP.out.trans hp1⟩


def settledPr (p q : Pr) (b : Int) : Pr :=
  if p.kind = q.kind then { p with node := 2 * p.node + b, phase := 0 }
  else if p.kind = 2 then { p with val := q.oval, phase := 19 } else { p with phase := 19 }

set_option maxHeartbeats 2000000 in
theorem settled_c {w : World} {pb qb : Nat} {p q : Pr} (h : w.heap[pb]? = some (.cells (prCells p) 128 (0, 0))) (hq : w.heap[qb]? = some (.cells (prCells q) 128 (0, 0))) (hn0 : 0 ≤ p.node) (hn : p.node ≤ 1000000) (b : Int) (hb0 : 0 ≤ b) (hb : b ≤ 1) :
    Calls Try.prog 120 #[.pointer (some ⟨pb, 0, none⟩), .pointer (some ⟨qb, 0, none⟩), I b] w fun e w' => e = .returned (.tuple #[]) ∧ PutB w w' pb (prCells (settledPr p q b)) 128 := by
  obtain ⟨f1, f2⟩ := nb_facts h
  obtain ⟨g1, _⟩ := nb_facts hq
  have c0 := f1 0
  have c3 := f1 3
  have c5 := f1 5
  have q0 := g1 0
  have q1 := g1 1
  simp only [prCells] at c0 c3 c5 q0 q1
  simp at c0 c3 c5 q0 q1
  have hd : PutB w w.drew pb (prCells p) 128 := (PutB.refl h).drew
  by_cases hk : p.kind = q.kind
  · have bk : (p.kind == q.kind) = true := by simp [hk]
    have hs : settledPr p q b = { p with node := 2 * p.node + b, phase := 0 } := by simp [settledPr, hk]
    have hc := child_c hd.blk hn0 hn b hb0 hb
    rw [hs]
    clear hk hs h f1 g1 hq
    go_enter Try.func120, Try.ntmps120
    go_wp2
    go_region
    go_wp2_with fail
    refine hc.mono ?_
    rintro e w1 ⟨rfl, hp1⟩
    go_wp2
    exact bodyPost_ret (v := .tuple #[]) (by simp [results, Try.results120, go_sem]) rfl ⟨rfl, hd.trans hp1⟩
  · have bk : (p.kind == q.kind) = false := by simp [hk]
    by_cases h2 : p.kind = 2
    · have b2 : (p.kind == 2) = true := by simp [h2]
      have hs : settledPr p q b = { p with val := q.oval, phase := 19 } := by unfold settledPr; rw [if_neg hk, if_pos h2]
      have HP : Hid (PutB w ((w.drew.setCell ⟨pb, 5, none⟩ (I q.oval)).setCell ⟨pb, 3, none⟩ (I 19)) pb (prCells { p with val := q.oval, phase := 19 }) 128) := (hd.set 5 (I q.oval)).set 3 (I 19)
      rw [hs]
      clear hk hs h f1 g1 hq h2 hd
      go_enter Try.func120, Try.ntmps120
      go_wp2
      go_region
      go_wp2
      go_end0
      exact ⟨rfl, HP.out⟩
    · have b2 : (p.kind == 2) = false := by simp [h2]
      have hs : settledPr p q b = { p with phase := 19 } := by unfold settledPr; rw [if_neg hk, if_neg h2]
      have HP : Hid (PutB w (w.drew.setCell ⟨pb, 3, none⟩ (I 19)) pb (prCells { p with phase := 19 }) 128) := hd.set 3 (I 19)
      rw [hs]
      clear hk hs h f1 g1 hq h2 hd
      go_enter Try.func120, Try.ntmps120
      go_wp2
      go_region
      go_wp2
      go_end0
      exact ⟨rfl, HP.out⟩

theorem tmod_twice (x : Int) (m : Int) (hm : 0 < m) : (x.tmod m + m).tmod m = x % m := by
  have h1 : -m < x.tmod m := by
    rcases Int.le_total 0 x with hx | hx
    · have := Int.tmod_nonneg m hx; omega
    · have h2 : (-x).tmod m = -(x.tmod m) := Int.neg_tmod x m
      have h3 := Int.tmod_lt_of_pos (-x) hm
      omega
  rw [Int.tmod_eq_emod_of_nonneg (by omega), Int.add_emod_right]
  rcases Int.le_total 0 x with hx | hx
  · rw [Int.tmod_eq_emod_of_nonneg hx, Int.emod_emod]
  · have h2 := Int.tmod_def x m
    have : x.tmod m = x + m * (-(x.tdiv m)) := by rw [Int.mul_neg]; omega
    rw [this, Int.add_mul_emod_self_left]

set_option maxHeartbeats 1000000 in
theorem remainder_c (x : Int) (m : Nat) (hm : 1 ≤ m) (hm4 : m ≤ 1000) (w : World) :
    Calls Try.prog 91 #[I x, I m] w fun e w' => e = .returned (I (x % m)) ∧ w' = w := by
  have ht := tmod_twice x m (by omega)
  have hne : ((m : Int) == 0) = false := by simp; omega
  have hlt := Int.tmod_lt_of_pos x (by omega : (0 : Int) < m)
  have hge : -(m : Int) < x.tmod m := by
    rcases Int.le_total 0 x with hx | hx
    · have := Int.tmod_nonneg (m : Int) hx; omega
    · have h2 : (-x).tmod m = -(x.tmod m) := Int.neg_tmod x m
      have h3 := Int.tmod_lt_of_pos (-x) (by omega : (0 : Int) < m)
      omega
  have H2 : Hid ((x.tmod m + m) % m = x % m) := by
    show _ = _
    have h3 : (x.tmod m + m).tmod m = (x.tmod m + m) % m := Int.tmod_eq_emod_of_nonneg (by omega)
    rw [← h3]; exact ht
  clear ht
  go_enter Try.func91, Try.ntmps91
  go_wp2
  go_ret
  exact ⟨ret_i H2.out, rfl⟩

end Go.Proofs.Ytjnmpejcegmkhaa
