/- What happens at a node, said of the tree's data. No statement of the seat is proved here. -/
import Derived.Test.YtjnmpejcegmkhaaRef7
namespace Go.Proofs.Ytjnmpejcegmkhaa
open Go.RowKit

/-- From B on only blocks of the types T have turned; below B none. -/
structure ChgT (B : Nat) (T : List TypeId) (w w' : World) : Prop where
  os : w'.os = w.os
  tape : w'.tape = w.tape
  output : w'.output = w.output
  size : w.heap.size ≤ w'.heap.size
  block : ∀ k, k < w.heap.size → (k < B ∨ ∀ c e f, w.heap[k]? = some (.cells c e f) → e ∉ T) → w'.heap[k]? = w.heap[k]?

theorem ChgT.refl (B : Nat) (T : List TypeId) (w : World) : ChgT B T w w := ⟨rfl, rfl, rfl, Nat.le_refl _, fun _ _ _ => rfl⟩
theorem ChgT.trans {B : Nat} {T : List TypeId} {a b c : World} (h : ChgT B T a b) (k : ChgT B T b c) : ChgT B T a c :=
  ⟨k.os.trans h.os, k.tape.trans h.tape, k.output.trans h.output, Nat.le_trans h.size k.size, fun i hi hc => by
    have h1 := h.block i hi hc
    rw [← h1]
    refine k.block i (Nat.lt_of_lt_of_le hi h.size) ?_
    rcases hc with hc | hc
    · exact Or.inl hc
    · exact Or.inr fun c' e f hh => hc c' e f (by rw [← h1]; exact hh)⟩
theorem ChgT.of_below {B : Nat} {T : List TypeId} {a b : World} (h : Below a.heap.size a b) : ChgT B T a b :=
  ⟨h.os, h.tape, h.output, h.size, fun k hk _ => h.block k hk⟩
theorem ChgT.below {B : Nat} {T : List TypeId} {a b : World} (h : ChgT B T a b) (hB : B ≤ a.heap.size) : Below B a b :=
  ⟨h.os, h.tape, h.output, h.size, fun k hk => h.block k (by omega) (Or.inl hk)⟩
theorem ChgT.mono {B B' : Nat} {T T' : List TypeId} {a b : World} (h : ChgT B T a b) (hB : B' ≤ B) (hT : ∀ e, e ∈ T → e ∈ T') : ChgT B' T' a b :=
  ⟨h.os, h.tape, h.output, h.size, fun k hk hc => h.block k hk (by
    rcases hc with hc | hc
    · exact Or.inl (by omega)
    · exact Or.inr fun c e f hh he => hc c e f hh (hT e he))⟩
theorem ChgT.at {B : Nat} {T : List TypeId} {a b : World} (h : ChgT B T a b) {k : Nat} {c : Array Value} {e : TypeId} {f : Nat × Nat} (hk : a.heap[k]? = some (.cells c e f)) (he : e ∉ T) : b.heap[k]? = some (.cells c e f) := by
  rw [h.block k (Array.getElem?_eq_some_iff.1 hk).1 (Or.inr fun c' e' f' hh => by rw [hk] at hh; simp at hh; rw [← hh.2.1]; exact he)]
  exact hk
theorem ChgT.row {B : Nat} {T : List TypeId} {a b : World} (h : ChgT B T a b) {base : Nat} {e : TypeId} {size : Nat} {v : Value} {n : Nat} {xs : List Value} (hr : a.ownsRow base e size v n xs) (he : e ∉ T) : b.ownsRow base e size v n xs := by
  obtain ⟨h1, h2⟩ := hr
  refine ⟨h1, ?_⟩
  rcases h2 with h2 | ⟨g, cap, cur, hv, hg, hh, r⟩
  · exact Or.inl h2
  · exact Or.inr ⟨g, cap, cur, hv, hg, h.at hh he, r⟩

theorem ownsRow_set {w : World} {base : Nat} {e : TypeId} {g n cap : Nat} {xs : List Value} (h : w.ownsRow base e 1 (.slice (some ⟨g, 0, none⟩) n cap) n xs) (k : Nat) (x : Value) :
    (w.setCell ⟨g, k, none⟩ x).ownsRow base e 1 (.slice (some ⟨g, 0, none⟩) n cap) n (xs.set k x) := by
  obtain ⟨h1, h2⟩ := h
  refine ⟨by simpa using h1, ?_⟩
  rcases h2 with ⟨h2, _⟩ | ⟨g', cap', cur, hv, hg, hh, r1, r2, r3, r4⟩
  · simp at h2
  · simp only [Value.slice.injEq, Option.some.injEq, Addr.mk.injEq] at hv
    obtain ⟨⟨rfl, _, _⟩, _, rfl⟩ := hv
    refine Or.inr ⟨g, cap, cur.setIfInBounds k x, rfl, hg, ?_, r1, r2, by simpa using r3, ?_⟩
    · simp [World.setCell, Array.getElem?_modify, hh]
    · rw [← r4]; simp [List.take_set]

theorem lay_hist_set (L : Lay) (v : Nat) (x : Value) (l : Hist) (u : Nat) (hv : v < L.past.length) : ({ L with past := L.past.set v (x, l) } : Lay).hist u = if u = v then l else L.hist u := by
  by_cases h : u = v
  · subst h; simp [Lay.hist, hv, List.getD_eq_getElem?_getD]
  · simp [Lay.hist, h, List.getD_eq_getElem?_getD, Ne.symm h]

theorem happens_c {w : World} {B : Nat} {L : Lay} (h : RefRep w B L) (hB : B ≤ w.heap.size) (v : Nat) (hv : v < L.past.length) (hll : (L.hist v).length ≤ 1000000000000) (ev : Ev) (iv : Value) (hiv : w.ownsRow B 3 1 iv ev.items.length (ev.items.map I)) :
    Calls Try.prog 79 #[.pointer (some ⟨L.tb, 0, none⟩), I v, .agg #[I ev.what, I ev.n, I ev.v, iv]] w fun e w' => e = .returned (.tuple #[]) ∧ (∃ x, RefRep w' B { L with past := L.past.set v (x, (ev, iv) :: L.hist v) }) ∧ ChgT B [136, 125] w w' := by
  have h1 := h.hv_cell
  obtain ⟨hb, cap, e1, c1, c2, h2⟩ := h.past_at hv
  rw [e1] at h1
  have hh : L.hist v = (L.past[v]).2 := by simp [Lay.hist, hv]
  have hrow := h.hrow
  rw [e1] at hrow
  obtain ⟨cur, hbk⟩ := ownsRow_block hrow (g := hb) rfl
  obtain ⟨io, ic, e3, _⟩ := ownsRow_cells hiv
  have hne : ∀ g, (L.past[v]).1.ownBlock = some g → g ≠ hb := by
    intro g hg e
    obtain ⟨c', hc'⟩ := ownsRow_block (h.hist v hv) hg
    rw [e, hbk] at hc'
    simp at hc'
  have hnt : ∀ g, (L.past[v]).1.ownBlock = some g → g ≠ L.tb := by
    intro g hg e
    obtain ⟨c', hc'⟩ := ownsRow_block (h.hist v hv) hg
    rw [e, h.tree] at hc'
    simp at hc'
  subst e3
  refine (happens_walk h1 hv c1 c2 h2 ((nb_facts hbk).2 v) (h.hist v hv) (by rw [← hh]; exact hll) hB hne hnt).mono ?_
  rintro e w' ⟨w1, g, cp, rfl, ho, hg, hgl, rfl⟩
  refine ⟨rfl, ?_⟩
  have hbk1 : w1.heap[hb]? = some (.cells cur 136 (0, 0)) := by
    rw [hg.block hb (Array.getElem?_eq_some_iff.1 hbk).1 (fun he => hne hb he.symm rfl)]; exact hbk
  have hchg : ChgT B [136, 125] w (w1.setCell ⟨hb, v, none⟩ (.slice (some ⟨g, 0, none⟩) ((L.past[v]).2.length + 1) cp)) := by
    refine ⟨hg.os, hg.tape, hg.output, by simpa [World.setCell] using hg.size, fun k hk hc => ?_⟩
    have hkb : k ≠ hb := by
      intro e
      subst e
      rcases hc with hc | hc
      · have := (hrow.lt k rfl).1; omega
      · exact absurd (hc _ _ _ hbk) (by simp)
    rw [Below.heap_setCell _ _ _ _ hkb]
    refine hg.block k hk fun he => ?_
    rcases hc with hc | hc
    · have := ((h.hist v hv).lt k he.symm).1; omega
    · obtain ⟨c', hc'⟩ := ownsRow_block (h.hist v hv) he.symm
      exact absurd (hc _ _ _ hc') (by simp)
  refine ⟨⟨.slice (some ⟨g, 0, none⟩) ((L.past[v]).2.length + 1) cp, ?_⟩, hchg⟩
  rw [hh]
  constructor
  · exact hchg.at h.tree (by decide)
  · exact h.treeB
  · exact hchg.row h.prow (by decide)
  · exact fun i hi => ⟨hchg.at (h.pblk i hi).1 (by decide), (h.pblk i hi).2⟩
  · exact h.pnd
  · show World.ownsRow _ B _ 1 L.hv (L.past.set v _).length _
    rw [List.length_set, List.map_set, e1]
    have r1 : w1.ownsRow B 136 1 (.slice (some ⟨hb, 0, none⟩) L.past.length cap) L.past.length (L.past.map fun x => x.1) := hrow.kept hg (Or.inr fun he => hne hb he.symm rfl)
    exact ownsRow_set r1 v _
  · intro i hi'
    have hi : i < L.past.length := by simpa using hi'
    by_cases hiv' : i = v
    · subst hiv'
      simp only [List.getElem_set_self, List.length_cons, histCells, evCells]
      exact ownsRow_setCell_type ho hbk1 (by decide) i _
    · simp only [List.getElem_set_ne (Ne.symm hiv')]
      refine ownsRow_setCell_type ((h.hist i hi).kept hg ?_) hbk1 (by decide) v _
      cases hx : (L.past[i]).1.ownBlock with
      | none => exact Or.inl rfl
      | some g' => exact Or.inr fun he => hiv' (h.hnd i v hi hv g' hx he.symm)
  · intro i hi' y hy
    have hi : i < L.past.length := by simpa using hi'
    by_cases hiv' : i = v
    · subst hiv'
      simp only [List.getElem_set_self, List.mem_cons] at hy
      rcases hy with rfl | hy
      · exact hchg.row hiv (by decide)
      · exact hchg.row (h.items i hi y hy) (by decide)
    · simp only [List.getElem_set_ne (Ne.symm hiv')] at hy
      exact hchg.row (h.items i hi y hy) (by decide)
  · intro i j hi' hj' g' hgi hgj
    have hi : i < L.past.length := by simpa using hi'
    have hj : j < L.past.length := by simpa using hj'
    have key : ∀ i, (hi : i < L.past.length) → i ≠ v → (L.past[i]).1.ownBlock = some g → False := by
      intro i hi hiv hx
      rcases hgl with hgl | hgl
      · exact hiv (h.hnd i v hi hv g hx hgl)
      · have := ((h.hist i hi).lt g hx).2; omega
    by_cases h1 : i = v
    · by_cases h2 : j = v
      · omega
      · subst h1
        simp only [List.getElem_set_self, Value.ownBlock, Option.some.injEq] at hgi
        simp only [List.getElem_set_ne (Ne.symm h2)] at hgj
        subst hgi
        exact (key j hj h2 hgj).elim
    · by_cases h2 : j = v
      · subst h2
        simp only [List.getElem_set_self, Value.ownBlock, Option.some.injEq] at hgj
        simp only [List.getElem_set_ne (Ne.symm h1)] at hgi
        subst hgj
        exact (key i hi h1 hgi).elim
      · simp only [List.getElem_set_ne (Ne.symm h1)] at hgi
        simp only [List.getElem_set_ne (Ne.symm h2)] at hgj
        exact h.hnd i j hi hj g' hgi hgj

end Go.Proofs.Ytjnmpejcegmkhaa
