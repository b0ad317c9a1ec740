/- Contracts of the statements' own comparisons (package prismlaw): of two answers that are alike they say so. The contract of package prismref's Spawn. No statement of the seat is proved here. -/
import Derived.Test.YtjnmpejcegmkhaaRefA
import Derived.Deep.RegionWith
import Derived.Deep.QuietTactic
import Derived.BigQuiet
namespace Go.Proofs.Ytjnmpejcegmkhaa
open Go.RowKit
variable {Fr : Nat → Prop}

theorem Below.drewN' {B : Nat} {a w : World} (h : Below B a w) (n : Nat) : Below B a (w.drewN n) := by
  induction n with
  | zero => exact h
  | succ n ih => exact ih.drew

theorem row_cells {w : World} {base : Nat} {v : Value} {n : Nat} {xs : List Int} (h : w.ownsRow base 3 1 v n (xs.map I)) :
    ∃ ao cap, v = .slice ao n cap ∧ n ≤ cap ∧ n ≤ maxLen ∧ xs.length = n ∧ ∀ j, (hj : j < xs.length) → ∃ g, ao = some ⟨g, 0, none⟩ ∧ g < w.heap.size ∧ w.cell? ⟨g, j, none⟩ = some (I xs[j]) := by
  obtain ⟨ao, cap, h1, h2, h3, h4, h5⟩ := ownsRow_cells h
  refine ⟨ao, cap, h1, h2, h3, by have := h.1; simpa using this, fun j hj => ?_⟩
  obtain ⟨g, e, _, c⟩ := h5 j (I xs[j]) (by simp [hj])
  exact ⟨g, e, cell_lt c, c⟩

set_option maxHeartbeats 1000000 in
theorem sameInts_c {w : World} {ba bb : Nat} {a b : Value} {n m : Nat} {xs : List Int} (ha : w.ownsRow ba 3 1 a n (xs.map I)) (hb : w.ownsRow bb 3 1 b m (xs.map I)) :
    Calls Try.prog 122 #[a, b] w fun e w' => e = .returned (.bool true) ∧ Below w.heap.size w w' := by
  obtain ⟨ao, ca, rfl, a1, a2, rfl, a4⟩ := row_cells ha
  obtain ⟨bo, cb, rfl, b1, b2, rfl, b4⟩ := row_cells hb
  unfold maxLen at a2 b2
  clear ha hb
  go_enter Try.func122, Try.ntmps122
  go_wp2
  go_loopw [5] (fun i wr => ∃ k : Nat, k ≤ xs.length ∧ i = .int .i64 k ∧ Below w.heap.size w wr) (fun i _ => xs.length - (intOf i).toNat)
  case atStart => exact ⟨0, Nat.zero_le _, rfl, Below.refl _ _⟩
  case round =>
    obtain ⟨k, hk, rfl, hbr⟩ := hrel
    by_cases hlt : k < xs.length
    · obtain ⟨g, rfl, l1, c1⟩ := a4 k hlt
      obtain ⟨g', rfl, l2, c2⟩ := b4 k hlt
      have d1 := (hbr.cell (p := ⟨g, k, none⟩) l1).trans c1
      have d2 := (hbr.cell (p := ⟨g', k, none⟩) l2).trans c2
      clear c1 c2 a4 b4
      generalize xs[k] = y at *
      go_wp2
      go_region
      go_wp2
      go_roundw
      case rel => exact ⟨k + 1, by omega, by go_num, hbr.drew⟩
      case measure => simp [intOf]; omega
    · go_wp2
      go_ret
      exact ⟨rfl, hbr⟩

set_option maxHeartbeats 2000000 in
theorem sameNode_c {w : World} {ba bb n1 n2 m1 m2 : Nat} {d : ND} {wv iv wv' iv' : Value} (h1 : w.ownsRow ba 3 1 wv n1 (d.waiting.map I)) (h2 : w.ownsRow bb 3 1 wv' n2 (d.waiting.map I))
    (h3 : w.ownsRow ba 3 1 iv m1 (d.items.map I)) (h4 : w.ownsRow bb 3 1 iv' m2 (d.items.map I)) :
    Calls Try.prog 94 #[.agg #[I d.num, I d.depth, I d.rank, .bool d.inner, .bool d.shut, I d.inside, I d.toggle, I d.width, wv, I d.puts, I d.gets, iv],
      .agg #[I d.num, I d.depth, I d.rank, .bool d.inner, .bool d.shut, I d.inside, I d.toggle, I d.width, wv', I d.puts, I d.gets, iv']] w fun e w' => e = .returned (.bool true) ∧ Below w.heap.size w w' := by
  have H1 := fun w' (hb : Below w.heap.size w w') => sameInts_c (ownsRow_below h1 hb (Nat.le_refl _)) (ownsRow_below h2 hb (Nat.le_refl _))
  have H2 := fun w' (hb : Below w.heap.size w w') => sameInts_c (ownsRow_below h3 hb (Nat.le_refl _)) (ownsRow_below h4 hb (Nat.le_refl _))
  obtain ⟨ao, ca, rfl, _⟩ := row_cells h1
  obtain ⟨ao', ca', rfl, _⟩ := row_cells h2
  obtain ⟨bo, cb, rfl, _⟩ := row_cells h3
  obtain ⟨bo', cb', rfl, _⟩ := row_cells h4
  clear h1 h2 h3 h4
  obtain ⟨num, dep, rk, inner, sh, ins, tog, wid, wt, pu, ge, its⟩ := d
  simp only at *
  replace H1 : Hid _ := H1
  replace H2 : Hid _ := H2
  go_enter Try.func94, Try.ntmps94
  go_wp2_with fail
  have hb0 : Below w.heap.size w ((w.alloc (.cells #[I num, I dep, I rk, .bool inner, .bool sh, I ins, I tog, I wid, .slice ao n1 ca, I pu, I ge, .slice bo m1 cb] 49)).alloc (.cells #[I num, I dep, I rk, .bool inner, .bool sh, I ins, I tog, I wid, .slice ao' n2 ca', I pu, I ge, .slice bo' m2 cb'] 49)) :=
    ((Below.refl _ _).alloc (Nat.le_refl _) _).alloc (by simp) _
  refine (H1.out _ hb0).mono ?_
  rintro x w1 ⟨rfl, hb1⟩
  have hb2 := hb0.trans (hb1.mono hb0.size)
  have na : w1.heap[w.heap.size]? = some (.cells #[I num, I dep, I rk, .bool inner, .bool sh, I ins, I tog, I wid, .slice ao n1 ca, I pu, I ge, .slice bo m1 cb] 49 (0, 0)) :=
    (hb1.block _ (by simp; omega)).trans (by rw [Below.heap_alloc _ _ _ (by simp)]; exact nb_alloc _ _ _)
  have nc : w1.heap[w.heap.size + 1]? = some (.cells #[I num, I dep, I rk, .bool inner, .bool sh, I ins, I tog, I wid, .slice ao' n2 ca', I pu, I ge, .slice bo' m2 cb'] 49 (0, 0)) :=
    (hb1.block _ (by simp)).trans (by
      have := nb_alloc (w.alloc (.cells #[I num, I dep, I rk, .bool inner, .bool sh, I ins, I tog, I wid, .slice ao n1 ca, I pu, I ge, .slice bo m1 cb] 49)) #[I num, I dep, I rk, .bool inner, .bool sh, I ins, I tog, I wid, .slice ao' n2 ca', I pu, I ge, .slice bo' m2 cb'] 49
      simpa using this)
  have hs1 : w.heap.size < w1.heap.size := (Array.getElem?_eq_some_iff.1 na).1
  have hs2 : w.heap.size + 1 < w1.heap.size := (Array.getElem?_eq_some_iff.1 nc).1
  clear hb0 hb1 H1
  obtain ⟨f1, f2⟩ := nb_facts na
  obtain ⟨g1, g2⟩ := nb_facts nc
  clear f2 g2
  go_wp2_with fail
  refine (H2.out _ hb2).mono ?_
  rintro x w2 ⟨rfl, hb3⟩
  have na2 := (hb3.block _ hs1).trans na
  have nc2 := (hb3.block _ hs2).trans nc
  have hb4 := hb2.trans (hb3.mono hb2.size)
  clear f1 g1 na nc hb3 hb2 H2
  obtain ⟨f1, _⟩ := nb_facts na2
  obtain ⟨g1, _⟩ := nb_facts nc2
  go_wp2
  go_ret
  exact ⟨rfl, hb4⟩

theorem ndsCells_at (l : List (ND × Value × Value)) (k : Nat) (hk : k < l.length) (j : Nat) (hj : j < 12) : (ndsCells l)[k * 12 + j]? = (ndCells (l[k]).1 (l[k]).2.1 (l[k]).2.2)[j]? := by
  induction l generalizing k with
  | nil => simp at hk
  | cons x l ih =>
    have hx : (ndCells x.1 x.2.1 x.2.2).length = 12 := rfl
    cases k with
    | zero =>
      simp only [ndsCells, List.flatMap_cons, Nat.zero_mul, Nat.zero_add, List.getElem_cons_zero]
      rw [List.getElem?_append_left (by omega)]
    | succ k =>
      simp only [ndsCells, List.flatMap_cons, List.getElem_cons_succ]
      rw [List.getElem?_append_right (by omega), hx, show (k + 1) * 12 + j - 12 = k * 12 + j from by omega]
      exact ih k (by simpa using hk)

theorem nodes_at {w : World} {b : Nat} {x : Value} {l : List (ND × Value × Value)} (h : NodesRep w b x l) (k : Nat) (hk : k < l.length) :
    ∃ g, (∀ ao n c, x = .slice ao n c → ao = some ⟨g, 0, none⟩) ∧ g < w.heap.size ∧ ∀ j, j < 12 → w.cell? ⟨g, k * 12 + j, none⟩ = (ndCells (l[k]).1 (l[k]).2.1 (l[k]).2.2)[j]? := by
  obtain ⟨ao, cap, h1, h2, h3, h4, h5⟩ := ownsRow_cells h.row
  have key : ∀ j, j < 12 → ∃ g, ao = some ⟨g, 0, none⟩ ∧ w.cell? ⟨g, k * 12 + j, none⟩ = (ndCells (l[k]).1 (l[k]).2.1 (l[k]).2.2)[j]? := by
    intro j hj
    have e := ndsCells_at l k hk j hj
    have hlt : j < (ndCells (l[k]).1 (l[k]).2.1 (l[k]).2.2).length := hj
    obtain ⟨g, e1, _, c⟩ := h5 (k * 12 + j) ((ndCells (l[k]).1 (l[k]).2.1 (l[k]).2.2)[j]) (by rw [e, List.getElem?_eq_getElem hlt])
    exact ⟨g, e1, by rw [c, List.getElem?_eq_getElem hlt]⟩
  obtain ⟨g, rfl, c0⟩ := key 0 (by omega)
  refine ⟨g, fun ao n c hx => by rw [h1] at hx; simp at hx; exact hx.1.symm, ?_, fun j hj => ?_⟩
  · have hlt : 0 < (ndCells (l[k]).1 (l[k]).2.1 (l[k]).2.2).length := by simp [ndCells]
    rw [List.getElem?_eq_getElem hlt] at c0
    exact cell_lt c0
  · obtain ⟨g', e, c⟩ := key j hj
    simp at e
    subst e
    exact c

set_option maxHeartbeats 2000000 in
theorem sameNodes_c {w : World} {tb lb : Nat} {pt : Value} {D : List ND} (ht : w.cell? ⟨lb, 0, none⟩ = some pt) (hr : w.cell? ⟨lb, 1, none⟩ = some (.pointer (some ⟨tb, 0, none⟩)))
    (hp : ∃ b o, pt = .pointer (some ⟨b, o, none⟩))
    (h1 : Calls Try.prog 17 #[pt] w fun e w' => ∃ x l, e = .returned x ∧ NodesRep w' w.heap.size x l ∧ l.map (fun y => y.1) = D ∧ Below w.heap.size w w')
    (h2 : ∀ W, Below w.heap.size w W → Calls Try.prog 93 #[.pointer (some ⟨tb, 0, none⟩)] W fun e w' => ∃ x l, e = .returned x ∧ NodesRep w' W.heap.size x l ∧ l.map (fun y => y.1) = D ∧ Below W.heap.size W w') :
    Calls Try.prog 61 #[.pointer (some ⟨lb, 0, none⟩)] w fun e w' => e = .returned (.bool true) ∧ Below w.heap.size w w' := by
  have l0 := cell_lt ht
  obtain ⟨pb, po, rfl⟩ := hp
  replace h2 : Hid _ := h2
  go_enter Try.func61, Try.ntmps61
  go_wp2_with fail
  refine h1.mono ?_
  rintro x w1 ⟨xa, la, rfl, ra, ea, hb1⟩
  have k1 := (hb1.cell (p := ⟨lb, 1, none⟩) l0).trans hr
  obtain ⟨aa, ca, rfl, a1, a2, a3, a4⟩ := ownsRow_cells ra.row
  clear h1 ht hr
  go_wp2_with fail
  refine (h2.out _ hb1).mono ?_
  rintro x w2 ⟨xb, lb', rfl, rb, eb, hb2⟩
  have ra2 := ra.below hb2 (Nat.le_refl _)
  obtain ⟨ab, cb, rfl, b1, b2, b3, b4⟩ := ownsRow_cells rb.row
  have hb3 := hb1.trans (hb2.mono hb1.size)
  have hlen : la.length = lb'.length := by have := congrArg List.length (ea.trans eb.symm); simpa using this
  replace ea : Hid (la.map (fun y => y.1) = D) := ea
  replace eb : Hid (lb'.map (fun y => y.1) = D) := eb
  have hlenE : Hid (la.length = lb'.length) := hlen
  unfold maxLen at a2 a3 b2 b3
  clear hb1 hb2 k1 h2 a4 b4 ra
  rw [hlen] at a1 a2
  rw [hlen]
  clear hlen
  go_wp2_with fail
  go_loopw [5, 6] (fun i _ wr => ∃ k : Nat, k ≤ lb'.length ∧ i = .int .i64 k ∧ Below w2.heap.size w2 wr) (fun i _ _ => lb'.length - (intOf i).toNat)
  case atStart => exact ⟨0, Nat.zero_le _, rfl, Below.refl _ _⟩
  case round =>
    obtain ⟨k, hk, rfl, hbr⟩ := hrel
    by_cases hlt : k < lb'.length
    · have hlta : k < la.length := by rw [hlenE.out]; exact hlt
      obtain ⟨g, e1, l1, f⟩ := nodes_at ra2 k hlta
      obtain ⟨g', e2, l2, f'⟩ := nodes_at rb k hlt
      have e3 := e1 _ _ _ rfl
      have e4 := e2 _ _ _ rfl
      subst e3 e4
      clear e1 e2
      have hd : (lb'[k]).1 = (la[k]).1 := by
        have := congrArg (fun l => l[k]?) (eb.out.trans ea.out.symm)
        simpa [hlt, hlta] using this
      have r1 := ra2.waiting la[k] (List.getElem_mem _)
      have r2 := ra2.items la[k] (List.getElem_mem _)
      have r3 := rb.waiting lb'[k] (List.getElem_mem _)
      have r4 := rb.items lb'[k] (List.getElem_mem _)
      rw [hd] at r3 r4 f'
      generalize la[k] = y at *
      generalize lb'[k] = y' at *
      obtain ⟨d, wv, iv⟩ := y
      obtain ⟨d', wv', iv'⟩ := y'
      simp only at hd r1 r2 r3 r4 f f'
      have HC := fun W (hb : Below w2.heap.size w2 W) => sameNode_c (ownsRow_below r1 hb (Nat.le_refl _)) (ownsRow_below r3 hb (Nat.le_refl _)) (ownsRow_below r2 hb (Nat.le_refl _)) (ownsRow_below r4 hb (Nat.le_refl _))
      replace HC : Hid _ := HC
      obtain ⟨ao1, c1, rfl, _⟩ := row_cells r1
      obtain ⟨ao2, c2, rfl, _⟩ := row_cells r2
      obtain ⟨ao3, c3, rfl, _⟩ := row_cells r3
      obtain ⟨ao4, c4, rfl, _⟩ := row_cells r4
      have F := fun j hj => (hbr.cell (p := ⟨g, k * 12 + j, none⟩) l1).trans (f j hj)
      have F' := fun j hj => (hbr.cell (p := ⟨g', k * 12 + j, none⟩) l2).trans (f' j hj)
      obtain ⟨num, dep, rk, inner, sh, ins, tog, wid, wt, pu, ge, its⟩ := d
      have p0 := F 0 (by omega); have p1 := F 1 (by omega); have p2 := F 2 (by omega); have p3 := F 3 (by omega); have p4 := F 4 (by omega); have p5 := F 5 (by omega)
      have p6 := F 6 (by omega); have p7 := F 7 (by omega); have p8 := F 8 (by omega); have p9 := F 9 (by omega); have p10 := F 10 (by omega); have p11 := F 11 (by omega)
      have q0 := F' 0 (by omega); have q1 := F' 1 (by omega); have q2 := F' 2 (by omega); have q3 := F' 3 (by omega); have q4 := F' 4 (by omega); have q5 := F' 5 (by omega)
      have q6 := F' 6 (by omega); have q7 := F' 7 (by omega); have q8 := F' 8 (by omega); have q9 := F' 9 (by omega); have q10 := F' 10 (by omega); have q11 := F' 11 (by omega)
      simp only [ndCells, Nat.add_zero] at p0 p1 p2 p3 p4 p5 p6 p7 p8 p9 p10 p11 q0 q1 q2 q3 q4 q5 q6 q7 q8 q9 q10 q11
      clear F F' f f' hd r1 r2 r3 r4 ra2 rb
      go_wp2_with fail
      go_region_with (go_at_call 94; refine (HC.out _ (by first | exact hbr | exact hbr.drew)).mono ?_; rintro x w3 ⟨rfl, hb5⟩)
      all_goals
        have hb6 : Below w2.heap.size w2 w3 := hbr.drew.trans (hb5.mono hbr.size)
        clear hb5
        go_wp2
        go_roundw
        case rel => exact ⟨k + 1, by omega, by go_num, hb6⟩
        case measure => simp [intOf]; omega
    · go_wp2
      go_ret
      exact ⟨rfl, hb3.trans (hbr.mono hb3.size)⟩

set_option maxHeartbeats 2000000 in
theorem sameProc_c {w : World} {tb lb : Nat} {pt : Value} {a b c e : Int} {p : Int} (ht : w.cell? ⟨lb, 0, none⟩ = some pt) (hr : w.cell? ⟨lb, 1, none⟩ = some (.pointer (some ⟨tb, 0, none⟩)))
    (hp : ∃ b o, pt = .pointer (some ⟨b, o, none⟩))
    (h1 : Calls Try.prog 41 #[pt, I p] w fun x w' => x = .returned (.tuple #[.agg #[I a, I b, I c], I e]) ∧ Below w.heap.size w w')
    (h2 : ∀ W, Below w.heap.size w W → Calls Try.prog 80 #[.pointer (some ⟨tb, 0, none⟩), I p] W fun x w' => x = .returned (.tuple #[.agg #[I a, I b, I c], I e]) ∧ Below W.heap.size W w') :
    Calls Try.prog 56 #[.pointer (some ⟨lb, 0, none⟩), I p] w fun e w' => e = .returned (.bool true) ∧ Below w.heap.size w w' := by
  have l0 := cell_lt ht
  obtain ⟨pb, po, rfl⟩ := hp
  replace h2 : Hid _ := h2
  go_enter Try.func56, Try.ntmps56
  go_wp2_with fail
  refine h1.mono ?_
  rintro x w1 ⟨rfl, hb1⟩
  have k1 := (hb1.cell (p := ⟨lb, 1, none⟩) l0).trans hr
  have l1 : lb < w1.heap.size := Nat.lt_of_lt_of_le l0 hb1.size
  clear h1 ht hr
  go_wp2_with fail
  have hb2 := hb1.alloc hb1.size (.cells #[I a, I b, I c] 84)
  refine (h2.out _ hb2).mono ?_
  rintro x w2 ⟨rfl, hb3⟩
  have hb4 := hb2.trans (hb3.mono hb2.size)
  have n1 : w2.heap[w1.heap.size]? = some (.cells #[I a, I b, I c] 84 (0, 0)) := (hb3.block _ (by simp)).trans (nb_alloc _ _ _)
  have l2 : w1.heap.size < w2.heap.size := (Array.getElem?_eq_some_iff.1 n1).1
  obtain ⟨f1, _⟩ := nb_facts n1
  clear h2 hb2 hb3 n1
  generalize w1.heap.size = nb at *
  go_wp2
  go_ret
  exact ⟨rfl, hb4.alloc hb4.size _⟩

/-- The statements' own record of two trees: lb, its block. -/
structure LawRep (w : World) (lb : Nat) (pt : Value) (tb : Nat) : Prop where
  blk : ∃ ls ms os mk, w.heap[lb]? = some (.cells #[pt, .pointer (some ⟨tb, 0, none⟩), ls, ms, os, mk] 103 (0, 0))
  ptr : ∃ b o, pt = .pointer (some ⟨b, o, none⟩)

theorem LawRep.below {w w' : World} {lb tb : Nat} {pt : Value} (h : LawRep w lb pt tb) (hb : Below w.heap.size w w') : LawRep w' lb pt tb := by
  obtain ⟨⟨ls, ms, os, mk, hh⟩, hp⟩ := h
  exact ⟨⟨ls, ms, os, mk, by rw [hb.block _ (Array.getElem?_eq_some_iff.1 hh).1]; exact hh⟩, hp⟩
theorem LawRep.c0 {w : World} {lb tb : Nat} {pt : Value} (h : LawRep w lb pt tb) : w.cell? ⟨lb, 0, none⟩ = some pt := by
  obtain ⟨ls, ms, os, mk, hh⟩ := h.blk
  rw [block_cell hh]; rfl
theorem LawRep.c1 {w : World} {lb tb : Nat} {pt : Value} (h : LawRep w lb pt tb) : w.cell? ⟨lb, 1, none⟩ = some (.pointer (some ⟨tb, 0, none⟩)) := by
  obtain ⟨ls, ms, os, mk, hh⟩ := h.blk
  rw [block_cell hh]; rfl

/-- What a program's tree owes to agree with the document's. -/
structure Agree (w : World) (pt : Value) (L : Lay) : Prop where
  nodes : ∀ W, Below w.heap.size w W → Calls Try.prog 17 #[pt] W fun e w' => ∃ x l, e = .returned x ∧ NodesRep w' W.heap.size x l ∧ l.map (fun y => y.1) = rnodes L ∧ Below W.heap.size W w'
  proc : ∀ W, Below w.heap.size w W → ∀ p, Calls Try.prog 41 #[pt, I p] W fun x w' => x = .returned (procV L p) ∧ Below W.heap.size W w'

theorem Agree.below {w w' : World} {pt : Value} {L : Lay} (h : Agree w pt L) (hb : Below w.heap.size w w') : Agree w' pt L :=
  ⟨fun W hW => h.nodes W (hb.trans (hW.mono hb.size)), fun W hW => h.proc W (hb.trans (hW.mono hb.size))⟩

theorem procV_form (L : Lay) (n : Int) : ∃ a b c e, procV L n = .tuple #[.agg #[I a, I b, I c], I e] := by
  unfold procV
  split
  · exact ⟨_, _, _, _, rfl⟩
  · exact ⟨_, _, _, _, rfl⟩

theorem sameProc_agree {w : World} {B lb : Nat} {pt : Value} {L : Lay} (hl : LawRep w lb pt L.tb) (hr : RefRep Fr w B L) (ha : Agree w pt L) (p : Int) :
    Calls Try.prog 56 #[.pointer (some ⟨lb, 0, none⟩), I p] w fun e w' => e = .returned (.bool true) ∧ Below w.heap.size w w' := by
  obtain ⟨a, b, c, e, hv⟩ := procV_form L p
  refine sameProc_c hl.c0 hl.c1 hl.ptr (a := a) (b := b) (c := c) (e := e) ?_ ?_
  · have := ha.proc w (Below.refl _ _) p
    rw [hv] at this
    exact this
  · intro W hW
    have := rproc_c (hr.below hW) p
    rw [hv] at this
    exact this

theorem sameNodes_agree {w : World} {B lb : Nat} {pt : Value} {L : Lay} (hl : LawRep w lb pt L.tb) (hr : RefRep Fr w B L) (ok : L.Ok) (h1 : 1 ≤ L.past.length) (ha : Agree w pt L) :
    Calls Try.prog 61 #[.pointer (some ⟨lb, 0, none⟩)] w fun e w' => e = .returned (.bool true) ∧ Below w.heap.size w w' :=
  sameNodes_c hl.c0 hl.c1 hl.ptr (ha.nodes w (Below.refl _ _)) fun _ hW => rnodes_c (hr.below hW) ok h1

set_option maxHeartbeats 2000000 in
theorem agrees_c {w : World} {B lb : Nat} {pt : Value} {L : Lay} (hl : LawRep w lb pt L.tb) (hr : RefRep Fr w B L) (ok : L.Ok) (h1 : 1 ≤ L.past.length) (ha : Agree w pt L) :
    Calls Try.prog 35 #[.pointer (some ⟨lb, 0, none⟩)] w fun e w' => e = .returned (.bool true) ∧ Below w.heap.size w w' := by
  have HP := fun W (hW : Below w.heap.size w W) p => sameProc_agree (hl.below hW) (hr.below hW) (ha.below hW) p
  have HN := fun W (hW : Below w.heap.size w W) => sameNodes_agree (hl.below hW) (hr.below hW) ok h1 (ha.below hW)
  replace HP : Hid _ := HP
  replace HN : Hid _ := HN
  have c1 := hl.c1
  have c2 := hr.pv_cell
  obtain ⟨ao, cap, e1, d1, d2, d3, hx⟩ := hr.proc_at
  clear hx
  rw [e1] at c2
  have l1 := cell_lt c1
  have l2 := hr.size
  unfold maxLen at d2 d3
  have hnp := ok.np
  clear e1 hl hr ok ha
  generalize L.procs.length = n at *
  generalize L.tb = tb at *
  go_enter Try.func35, Try.ntmps35
  go_wp2_with fail
  go_loopw [3, 4] (fun i _ wr => ∃ k : Nat, k ≤ n + 2 ∧ i = .int .i64 (k - 1) ∧ Below w.heap.size w wr) (fun i _ _ => (n + 1 - intOf i).toNat)
  case atStart => exact ⟨0, Nat.zero_le _, rfl, Below.refl _ _⟩
  case round =>
    obtain ⟨k, hk, rfl, hbr⟩ := hrel
    have k1 := (hbr.cell (p := ⟨lb, 1, none⟩) l1).trans c1
    have k2 := (hbr.cell (p := ⟨tb, 8, none⟩) l2).trans c2
    by_cases hlt : k < n + 2
    · have hle : (k : Int) - 1 ≤ n := by omega
      go_wp2_with fail
      refine (HP.out _ hbr _).mono ?_
      rintro x w1 ⟨rfl, hb1⟩
      have hb2 := hbr.trans (hb1.mono hbr.size)
      clear hb1 k1 k2
      go_wp2_with fail
      go_roundw
      case rel => exact ⟨k + 1, by omega, int_of (by omega), hb2⟩
      case measure => simp [intOf]; omega
    · have hle : ¬ (k : Int) - 1 ≤ n := by omega
      go_wp2_with fail
      refine (HN.out _ hbr).mono ?_
      rintro x w1 ⟨rfl, hb1⟩
      go_wp2_with fail
      go_ret
      exact ⟨rfl, hbr.trans (hb1.mono hbr.size)⟩

theorem cells_new_at' (w : World) (xs : List Value) (T : TypeId) (n : Nat) (hn : n = w.heap.size) : ∀ (j : Nat) (u : Value), xs[j]? = some u → (w.alloc (.cells xs.toArray T)).cell? ((⟨n, 0, none⟩ : Addr).add j) = some u := by
  subst hn; exact cells_new w xs T

structure Op3 where
  kind : Int
  val : Int
  node : Int
def opV (o : Op3) : Value := .agg #[I o.kind, I o.val, I o.node]

def isChange (o : Op3) : Bool := decide (o.kind = 3) || decide (o.kind = 4)

set_option maxHeartbeats 1000000 in
theorem changes_c (o : Op3) (w : World) : Calls Try.prog 96 #[opV o] w fun e w' => e = .returned (.bool (isChange o)) ∧ Below w.heap.size w w' := by
  unfold opV
  have HI : Hid (isChange o = (decide (o.kind = 3) || decide (o.kind = 4))) := rfl
  generalize isChange o = b at *
  by_cases h3 : o.kind = 3
  · have b1 : (o.kind == 3) = true := by simp [h3]
    have hb : b = true := by rw [HI.out]; simp [h3]
    subst hb
    clear h3 HI
    go_enter Try.func96, Try.ntmps96
    go_wp2
    go_ret
    exact ⟨rfl, (Below.refl _ _).alloc (Nat.le_refl _) _⟩
  · have b1 : (o.kind == 3) = false := by simp [h3]
    by_cases h4 : o.kind = 4
    · have b2 : (o.kind == 4) = true := by simp [h4]
      have hb : b = true := by rw [HI.out]; simp [h4]
      subst hb
      clear h3 h4 HI
      go_enter Try.func96, Try.ntmps96
      go_wp2
      go_ret
      exact ⟨rfl, (Below.refl _ _).alloc (Nat.le_refl _) _⟩
    · have b2 : (o.kind == 4) = false := by simp [h4]
      have hb : b = false := by rw [HI.out]; simp [h3, h4]
      subst hb
      clear h3 h4 HI
      go_enter Try.func96, Try.ntmps96
      go_wp2
      go_ret
      exact ⟨rfl, (Below.refl _ _).alloc (Nat.le_refl _) _⟩

/-- Has a tree of the configuration c the operation o? -/
def okOp (c : Conf) (o : Op3) : Prop :=
  ((o.kind = 3 ∨ o.kind = 4) ∧ 1 ≤ o.node ∧ o.node < ((2 ^ c.depth.toNat : Nat) : Int)) ∨ (o.kind = 0 ∧ c.kind = 0) ∨ ((o.kind = 1 ∨ o.kind = 2) ∧ c.kind = 1)

def newPr (o : Op3) : Pr := ⟨o.kind, o.val, o.node, if isChange o ∧ o.node = 1 then 15 else 0, 1, 0, 0, 0, 0, 0, -1, 0, 0⟩

theorem RefRep.push {w w1 w2 : World} {B : Nat} {L : Lay} {nb : Nat} {p : Pr} {x : Value} (h : RefRep Fr w B L) (hB : B ≤ w.heap.size) (hw : Below w.heap.size w w1) (hblk : w1.heap[nb]? = some (.cells (prCells p) 128 (0, 0))) (hnb : w.heap.size ≤ nb)
    (ho : w2.ownsRow B 129 1 x (L.procs.length + 1) ((L.procs.map fun p => Value.pointer (some ⟨p.1, 0, none⟩)) ++ [.pointer (some ⟨nb, 0, none⟩)])) (hg : w1.grownBy w2 L.pv.ownBlock) :
    RefRep Fr (w2.setCell ⟨L.tb, 8, none⟩ x) B { L with pv := x, procs := L.procs ++ [(nb, p)] } ∧ ChgT B [110, 129] w (w2.setCell ⟨L.tb, 8, none⟩ x) := by
  have h1 := h.below hw
  have hne : some L.tb ≠ L.pv.ownBlock := by
    intro e
    obtain ⟨c', hc'⟩ := ownsRow_block h.prow e.symm
    rw [h.tree] at hc'
    simp at hc'
  have ht2 : w2.heap[L.tb]? = some (.cells (treeCells L) 110 (0, 0)) := by
    rw [hg.block L.tb (by have := h1.size; omega) hne]; exact h1.tree
  have hch : ChgT B [110, 129] w (w2.setCell ⟨L.tb, 8, none⟩ x) := by
    refine ⟨hg.os.trans hw.os, hg.tape.trans hw.tape, hg.output.trans hw.output, by simpa [World.setCell] using Nat.le_trans hw.size hg.size, fun k hk hc => ?_⟩
    have hkt : k ≠ L.tb := by
      intro e
      subst e
      rcases hc with hc | hc
      · have := h.treeB; omega
      · exact absurd (hc _ _ _ h.tree) (by simp)
    rw [Below.heap_setCell _ _ _ _ hkt, hg.block k (by have := hw.size; omega) (fun he => ?_), hw.block k hk]
    rcases hc with hc | hc
    · have := (h.prow.lt k he.symm).1; omega
    · obtain ⟨c', hc'⟩ := ownsRow_block h.prow he.symm
      exact absurd (hc _ _ _ hc') (by simp)
  refine ⟨?_, hch⟩
  constructor
  · have := nb_set ht2 8 x
    simpa [treeCells, Array.setIfInBounds] using this
  · exact h.treeB
  · have := ownsRow_setCell_type ho ht2 (by decide) 8 x
    simpa using this
  · intro i hi'
    have hi2 : i < L.procs.length + 1 := by simpa using hi'
    by_cases e : i = L.procs.length
    · subst e
      simp only [List.getElem_append_right (Nat.le_refl _), Nat.sub_self, List.getElem_cons_zero]
      refine ⟨?_, Nat.le_trans hB hnb⟩
      have hne2 : nb ≠ L.tb := by have := h.size; omega
      rw [Below.heap_setCell _ _ _ _ hne2, hg.block nb (Array.getElem?_eq_some_iff.1 hblk).1 (fun he => ?_)]
      · exact hblk
      · have := (h.prow.lt nb he.symm).2; omega
    · have hi : i < L.procs.length := by omega
      simp only [List.getElem_append_left hi]
      exact ⟨hch.at (h.pblk i hi).1 (by decide), (h.pblk i hi).2⟩
  · intro i j hi' hj' e
    have hi2 : i < L.procs.length + 1 := by simpa using hi'
    have hj2 : j < L.procs.length + 1 := by simpa using hj'
    have old : ∀ k, (hk : k < L.procs.length) → (L.procs[k]).1 < w.heap.size := fun k hk => (Array.getElem?_eq_some_iff.1 (h.pblk k hk).1).1
    by_cases ei : i = L.procs.length
    · by_cases ej : j = L.procs.length
      · omega
      · exfalso
        have hj : j < L.procs.length := by omega
        subst ei
        simp only [List.getElem_append_right (Nat.le_refl _), Nat.sub_self, List.getElem_cons_zero, List.getElem_append_left hj] at e
        have := old j hj; omega
    · have hi : i < L.procs.length := by omega
      by_cases ej : j = L.procs.length
      · exfalso
        subst ej
        simp only [List.getElem_append_right (Nat.le_refl _), Nat.sub_self, List.getElem_cons_zero, List.getElem_append_left hi] at e
        have := old i hi; omega
      · have hj : j < L.procs.length := by omega
        simp only [List.getElem_append_left hi, List.getElem_append_left hj] at e
        exact h.pnd i j hi hj e
  · exact hch.row h.hrow (by decide)
  · exact fun i hi => hch.row (h.hist i hi) (by decide)
  · exact fun i hi y hy => hch.row (h.items i hi y hy) (by decide)
  · exact h.hnd
  · exact ⟨fun k hk => Nat.lt_of_lt_of_le (h.far.1 k hk) hch.size, h.far.2⟩

theorem Try.info129 : (Try.prog.info? 129).map (fun i => (i.zero, i.size, i.bytes)) = some (some (.pointer none), 1, 8) := by kernel_rfl

/-- The ways in which an operation is there, as the code asks it. -/
theorem okOp_ways (c : Conf) (o : Op3) (h : okOp c o) : ((o.kind == 0) = true ∧ (c.kind == 0) = true ∧ isChange o = false) ∨ ((o.kind == 0) = false ∧ (o.kind == 1) = true ∧ (c.kind == 1) = true ∧ isChange o = false) ∨ ((o.kind == 0) = false ∧ (o.kind == 1) = false ∧ (o.kind == 2) = true ∧ (c.kind == 1) = true ∧ isChange o = false) ∨
    ((o.kind == 0) = false ∧ (o.kind == 1) = false ∧ (o.kind == 2) = false ∧ isChange o = true ∧ 1 ≤ o.node ∧ o.node < ((2 ^ c.depth.toNat : Nat) : Int)) := by
  rcases h with ⟨h1, h2, h3⟩ | ⟨h1, h2⟩ | ⟨h1, h2⟩
  · exact Or.inr (Or.inr (Or.inr ⟨by simp; omega, by simp; omega, by simp; omega, by simp [isChange]; omega, h2, h3⟩))
  · exact Or.inl ⟨by simp [h1], by simp [h2], by simp [isChange, h1]⟩
  · rcases h1 with h1 | h1
    · exact Or.inr (Or.inl ⟨by simp [h1], by simp [h1], by simp [h2], by simp [isChange, h1]⟩)
    · exact Or.inr (Or.inr (Or.inl ⟨by simp [h1], by simp [h1], by simp [h1], by simp [h2], by simp [isChange, h1]⟩))

set_option maxHeartbeats 8000000 in
theorem rspawn_yes {w : World} {B : Nat} {L : Lay} (h : RefRep Fr w B L) (hB : B ≤ w.heap.size) (o : Op3) (ho : okOp L.c o) (hd0 : 0 ≤ L.c.depth) (hd4 : L.c.depth ≤ 4) (hn : L.procs.length < 256) (hlv : (liveL L.procs : Int) ≠ L.c.procs) :
    Calls Try.prog 64 #[.pointer (some ⟨L.tb, 0, none⟩), opV o] w fun e w' => e = .returned (.tuple #[I L.procs.length, I 0]) ∧ (∃ nb x, RefRep Fr w' B { L with pv := x, procs := L.procs ++ [(nb, newPr o)] }) ∧ ChgT B [110, 129] w w' := by
  have hch := fun W => changes_c o W
  have hlive := fun W (hb : Below w.heap.size w W) => live_c (h.below hb)
  have c0 : w.cell? ⟨L.tb, 0, none⟩ = some (I L.c.kind) := by rw [block_cell h.tree]; rfl
  have c1 : w.cell? ⟨L.tb, 1, none⟩ = some (I L.c.depth) := by rw [block_cell h.tree]; rfl
  have c7 : w.cell? ⟨L.tb, 7, none⟩ = some (I L.c.procs) := by rw [block_cell h.tree]; rfl
  have c8 := h.pv_cell
  obtain ⟨ao, cap, e1, q1, q2, q3, hx⟩ := ownsRow_cells h.prow
  clear hx
  rw [e1] at c8
  have l0 := h.size
  obtain ⟨d, hd⟩ := Int.eq_ofNat_of_zero_le hd0
  rw [hd] at c1
  have hd4n : d ≤ 4 := by omega
  have hs := sh_one d (by omega)
  have hdn : L.c.depth.toNat = d := by omega
  have HPU : Hid (∀ w1 w2 nb x, Below w.heap.size w w1 → w1.heap[nb]? = some (.cells (prCells (newPr o)) 128 (0, 0)) → w.heap.size ≤ nb → w2.ownsRow B 129 1 x (L.procs.length + 1) ((L.procs.map fun p => Value.pointer (some ⟨p.1, 0, none⟩)) ++ [.pointer (some ⟨nb, 0, none⟩)]) → w1.grownBy w2 L.pv.ownBlock →
      RefRep Fr (w2.setCell ⟨L.tb, 8, none⟩ x) B { L with pv := x, procs := L.procs ++ [(nb, newPr o)] } ∧ ChgT B [110, 129] w (w2.setCell ⟨L.tb, 8, none⟩ x)) :=
    fun w1 w2 nb x a1 a2 a3 a4 a5 => h.push hB a1 a2 a3 a4 a5
  have hown := h.prow
  have HNT : Hid (some L.tb ≠ L.pv.ownBlock) := by
    intro e
    obtain ⟨c', hc'⟩ := ownsRow_block h.prow e.symm
    rw [h.tree] at hc'
    simp at hc'
  have HFZ : Hid (w.frozen? ⟨L.tb, 8, none⟩ = false) := (nb_facts h.tree).2 8
  rw [e1] at HPU hown HNT
  have bl : ((liveL L.procs : Int) == L.c.procs) = false := by simpa using hlv
  have bn : ((L.procs.length : Int) == 256) = false := by simp; omega
  have hways := okOp_ways L.c o ho
  rw [hdn] at hways
  obtain ⟨P2, hP2⟩ : ∃ P2 : Nat, P2 = 2 ^ d := ⟨_, rfl⟩
  rw [← hP2] at hs hways
  unfold maxLen at q2 q3
  unfold opV at hch ⊢
  replace hch : Hid _ := hch
  replace hlive : Hid _ := hlive
  obtain ⟨i0, hi, hz0, hz1, hz2⟩ := info_parts Try.info129
  clear h ho hlv hP2 hdn hd hd0 hd4 e1
  generalize L.c.kind = ck at *
  generalize L.c.procs = cp at *
  generalize liveL L.procs = lv at *
  obtain ⟨kind, val, node⟩ := o
  simp only at *
  rcases hways with ⟨b0, k0, hc⟩ | ⟨b0, b1, k1, hc⟩ | ⟨b0, b1, b2, k1, hc⟩ | ⟨b0, b1, b2, hc, n1, n2⟩
  · rw [hc] at hch
    have HNP : Hid (newPr ⟨kind, val, node⟩ = ⟨kind, val, node, 0, 1, 0, 0, 0, 0, 0, -1, 0, 0⟩) := by show _ = _; simp [newPr, hc]
    clear hc
    go_enter Try.func64, Try.ntmps64
    go_wp2_with fail
    refine (hch.out _).mono ?_
    rintro e w0 ⟨rfl, hb1⟩
    have nbo : w0.heap[w.heap.size]? = some (.cells #[I kind, I val, I node] 33 (0, 0)) := (hb1.block _ (by simp)).trans (nb_alloc _ _ _)
    have hb2 : Below w.heap.size w w0 := ((Below.refl _ _).alloc (Nat.le_refl _) _).trans (hb1.mono (by simp))
    have l1 : L.tb < w0.heap.size := Nat.lt_of_lt_of_le l0 hb2.size
    have ls := (Array.getElem?_eq_some_iff.1 nbo).1
    have k0' := (hb2.cell (p := ⟨L.tb, 0, none⟩) l0).trans c0
    have k1' := (hb2.cell (p := ⟨L.tb, 1, none⟩) l0).trans c1
    have k7' := (hb2.cell (p := ⟨L.tb, 7, none⟩) l0).trans c7
    have k8' := (hb2.cell (p := ⟨L.tb, 8, none⟩) l0).trans c8
    have hown1 := ownsRow_below hown hb2 (Nat.le_refl _)
    have hsz := hb2.size
    obtain ⟨f1, _⟩ := nb_facts nbo
    clear hb1 c0 c1 c7 c8 hch hown
    go_wp2_with fail
    refine (hlive.out _ hb2).mono ?_
    rintro e w2 ⟨rfl, rfl⟩
    clear hlive
    go_wp2_with (at_builtin; go_must (refine wpList_append_own _ rfl _ _ 107 rfl B 129 i0 (.pointer none) 1 8 Try.underlying107 hi hz0 hz1 hz2 rfl (by decide) _ _ _ rfl ((hown1.alloc _).alloc _) ⟨w2.heap.size + 1, 0, none⟩ 1 1 [.pointer (some ⟨w2.heap.size, 0, none⟩)] rfl rfl ?c1 ?c2 ?c3 ?c4 ?c5 ?_))
    case c1 => exact cells_new_at' _ [Value.pointer (some ⟨w2.heap.size, 0, none⟩)] _ _ (by simp)
    case c2 => intro u hu; simp at hu; subst hu; rfl
    case c3 => unfold maxLen; omega
    case c4 => omega
    case c5 => simp; omega
    · intro x' w3 hown' hgrow _
      have hnt := HNT.out
      have ht0 : w3.heap[L.tb]? = w2.heap[L.tb]? := by
        rw [hgrow.block L.tb (by simp; omega) hnt, Below.heap_alloc _ _ _ (by simp; omega), Below.heap_alloc _ _ _ l1]
      have hfin := HPU.out _ w3 w2.heap.size x' ((hb2.alloc hsz _).alloc (by simp; omega) _) (by
        rw [HNP.out, Below.heap_alloc _ _ _ (by simp)]
        exact nb_alloc _ _ _) hsz hown' hgrow
      replace hfin : Hid _ := hfin
      have d8 := (World.cell?_of_block (a := ⟨L.tb, 8, none⟩) ht0).trans k8'
      have d8f : w3.frozen? ⟨L.tb, 8, none⟩ = false := (World.frozen?_of_block (a := ⟨L.tb, 8, none⟩) ht0).trans ((World.frozen?_of_block (a := ⟨L.tb, 8, none⟩) (hb2.block L.tb l0)).trans HFZ.out)
      obtain ⟨ao', cp', rfl, _⟩ := ownsRow_cells hown'
      clear hown' hgrow ht0 HPU HNP f1 k0' k1' k7' k8' hown1 hnt
      go_wp2
      go_ret2
      exact ⟨rfl, ⟨_, _, hfin.out.1⟩, hfin.out.2⟩
  · rw [hc] at hch
    have HNP : Hid (newPr ⟨kind, val, node⟩ = ⟨kind, val, node, 0, 1, 0, 0, 0, 0, 0, -1, 0, 0⟩) := by show _ = _; simp [newPr, hc]
    clear hc
    go_enter Try.func64, Try.ntmps64
    go_wp2_with fail
    refine (hch.out _).mono ?_
    rintro e w0 ⟨rfl, hb1⟩
    have nbo : w0.heap[w.heap.size]? = some (.cells #[I kind, I val, I node] 33 (0, 0)) := (hb1.block _ (by simp)).trans (nb_alloc _ _ _)
    have hb2 : Below w.heap.size w w0 := ((Below.refl _ _).alloc (Nat.le_refl _) _).trans (hb1.mono (by simp))
    have l1 : L.tb < w0.heap.size := Nat.lt_of_lt_of_le l0 hb2.size
    have ls := (Array.getElem?_eq_some_iff.1 nbo).1
    have k0' := (hb2.cell (p := ⟨L.tb, 0, none⟩) l0).trans c0
    have k1' := (hb2.cell (p := ⟨L.tb, 1, none⟩) l0).trans c1
    have k7' := (hb2.cell (p := ⟨L.tb, 7, none⟩) l0).trans c7
    have k8' := (hb2.cell (p := ⟨L.tb, 8, none⟩) l0).trans c8
    have hown1 := ownsRow_below hown hb2 (Nat.le_refl _)
    have hsz := hb2.size
    obtain ⟨f1, _⟩ := nb_facts nbo
    clear hb1 c0 c1 c7 c8 hch hown
    go_wp2_with fail
    refine (hlive.out _ hb2).mono ?_
    rintro e w2 ⟨rfl, rfl⟩
    clear hlive
    go_wp2_with (at_builtin; go_must (refine wpList_append_own _ rfl _ _ 107 rfl B 129 i0 (.pointer none) 1 8 Try.underlying107 hi hz0 hz1 hz2 rfl (by decide) _ _ _ rfl ((hown1.alloc _).alloc _) ⟨w2.heap.size + 1, 0, none⟩ 1 1 [.pointer (some ⟨w2.heap.size, 0, none⟩)] rfl rfl ?c1 ?c2 ?c3 ?c4 ?c5 ?_))
    case c1 => exact cells_new_at' _ [Value.pointer (some ⟨w2.heap.size, 0, none⟩)] _ _ (by simp)
    case c2 => intro u hu; simp at hu; subst hu; rfl
    case c3 => unfold maxLen; omega
    case c4 => omega
    case c5 => simp; omega
    · intro x' w3 hown' hgrow _
      have hnt := HNT.out
      have ht0 : w3.heap[L.tb]? = w2.heap[L.tb]? := by
        rw [hgrow.block L.tb (by simp; omega) hnt, Below.heap_alloc _ _ _ (by simp; omega), Below.heap_alloc _ _ _ l1]
      have hfin := HPU.out _ w3 w2.heap.size x' ((hb2.alloc hsz _).alloc (by simp; omega) _) (by
        rw [HNP.out, Below.heap_alloc _ _ _ (by simp)]
        exact nb_alloc _ _ _) hsz hown' hgrow
      replace hfin : Hid _ := hfin
      have d8 := (World.cell?_of_block (a := ⟨L.tb, 8, none⟩) ht0).trans k8'
      have d8f : w3.frozen? ⟨L.tb, 8, none⟩ = false := (World.frozen?_of_block (a := ⟨L.tb, 8, none⟩) ht0).trans ((World.frozen?_of_block (a := ⟨L.tb, 8, none⟩) (hb2.block L.tb l0)).trans HFZ.out)
      obtain ⟨ao', cp', rfl, _⟩ := ownsRow_cells hown'
      clear hown' hgrow ht0 HPU HNP f1 k0' k1' k7' k8' hown1 hnt
      go_wp2
      go_ret2
      exact ⟨rfl, ⟨_, _, hfin.out.1⟩, hfin.out.2⟩
  · rw [hc] at hch
    have HNP : Hid (newPr ⟨kind, val, node⟩ = ⟨kind, val, node, 0, 1, 0, 0, 0, 0, 0, -1, 0, 0⟩) := by show _ = _; simp [newPr, hc]
    clear hc
    go_enter Try.func64, Try.ntmps64
    go_wp2_with fail
    refine (hch.out _).mono ?_
    rintro e w0 ⟨rfl, hb1⟩
    have nbo : w0.heap[w.heap.size]? = some (.cells #[I kind, I val, I node] 33 (0, 0)) := (hb1.block _ (by simp)).trans (nb_alloc _ _ _)
    have hb2 : Below w.heap.size w w0 := ((Below.refl _ _).alloc (Nat.le_refl _) _).trans (hb1.mono (by simp))
    have l1 : L.tb < w0.heap.size := Nat.lt_of_lt_of_le l0 hb2.size
    have ls := (Array.getElem?_eq_some_iff.1 nbo).1
    have k0' := (hb2.cell (p := ⟨L.tb, 0, none⟩) l0).trans c0
    have k1' := (hb2.cell (p := ⟨L.tb, 1, none⟩) l0).trans c1
    have k7' := (hb2.cell (p := ⟨L.tb, 7, none⟩) l0).trans c7
    have k8' := (hb2.cell (p := ⟨L.tb, 8, none⟩) l0).trans c8
    have hown1 := ownsRow_below hown hb2 (Nat.le_refl _)
    have hsz := hb2.size
    obtain ⟨f1, _⟩ := nb_facts nbo
    clear hb1 c0 c1 c7 c8 hch hown
    go_wp2_with fail
    refine (hlive.out _ hb2).mono ?_
    rintro e w2 ⟨rfl, rfl⟩
    clear hlive
    go_wp2_with (at_builtin; go_must (refine wpList_append_own _ rfl _ _ 107 rfl B 129 i0 (.pointer none) 1 8 Try.underlying107 hi hz0 hz1 hz2 rfl (by decide) _ _ _ rfl ((hown1.alloc _).alloc _) ⟨w2.heap.size + 1, 0, none⟩ 1 1 [.pointer (some ⟨w2.heap.size, 0, none⟩)] rfl rfl ?c1 ?c2 ?c3 ?c4 ?c5 ?_))
    case c1 => exact cells_new_at' _ [Value.pointer (some ⟨w2.heap.size, 0, none⟩)] _ _ (by simp)
    case c2 => intro u hu; simp at hu; subst hu; rfl
    case c3 => unfold maxLen; omega
    case c4 => omega
    case c5 => simp; omega
    · intro x' w3 hown' hgrow _
      have hnt := HNT.out
      have ht0 : w3.heap[L.tb]? = w2.heap[L.tb]? := by
        rw [hgrow.block L.tb (by simp; omega) hnt, Below.heap_alloc _ _ _ (by simp; omega), Below.heap_alloc _ _ _ l1]
      have hfin := HPU.out _ w3 w2.heap.size x' ((hb2.alloc hsz _).alloc (by simp; omega) _) (by
        rw [HNP.out, Below.heap_alloc _ _ _ (by simp)]
        exact nb_alloc _ _ _) hsz hown' hgrow
      replace hfin : Hid _ := hfin
      have d8 := (World.cell?_of_block (a := ⟨L.tb, 8, none⟩) ht0).trans k8'
      have d8f : w3.frozen? ⟨L.tb, 8, none⟩ = false := (World.frozen?_of_block (a := ⟨L.tb, 8, none⟩) ht0).trans ((World.frozen?_of_block (a := ⟨L.tb, 8, none⟩) (hb2.block L.tb l0)).trans HFZ.out)
      obtain ⟨ao', cp', rfl, _⟩ := ownsRow_cells hown'
      clear hown' hgrow ht0 HPU HNP f1 k0' k1' k7' k8' hown1 hnt
      go_wp2
      go_ret2
      exact ⟨rfl, ⟨_, _, hfin.out.1⟩, hfin.out.2⟩
  · have n1' : (1 : Int) ≤ node := n1
    by_cases hn1 : node = 1
    · have bn1 : (node == 1) = true := by simp [hn1]
      rw [hc] at hch
      have HNP : Hid (newPr ⟨kind, val, node⟩ = ⟨kind, val, node, 15, 1, 0, 0, 0, 0, 0, -1, 0, 0⟩) := by show _ = _; rw [newPr, hc]; simp [hn1]
      clear hc hn1
      go_enter Try.func64, Try.ntmps64
      go_wp2_with fail
      refine (hch.out _).mono ?_
      rintro e w0 ⟨rfl, hb1⟩
      have nbo : w0.heap[w.heap.size]? = some (.cells #[I kind, I val, I node] 33 (0, 0)) := (hb1.block _ (by simp)).trans (nb_alloc _ _ _)
      have hb2 : Below w.heap.size w w0 := ((Below.refl _ _).alloc (Nat.le_refl _) _).trans (hb1.mono (by simp))
      have l1 : L.tb < w0.heap.size := Nat.lt_of_lt_of_le l0 hb2.size
      have ls := (Array.getElem?_eq_some_iff.1 nbo).1
      have k0' := (hb2.cell (p := ⟨L.tb, 0, none⟩) l0).trans c0
      have k1' := (hb2.cell (p := ⟨L.tb, 1, none⟩) l0).trans c1
      have k7' := (hb2.cell (p := ⟨L.tb, 7, none⟩) l0).trans c7
      have k8' := (hb2.cell (p := ⟨L.tb, 8, none⟩) l0).trans c8
      have hown1 := ownsRow_below hown hb2 (Nat.le_refl _)
      have hsz := hb2.size
      obtain ⟨f1, _⟩ := nb_facts nbo
      clear hb1 c0 c1 c7 c8 hch hown
      go_wp2_with fail
      go_quiet (fail)
      have hbq : Below w0.heap.size w0 (w0.drewN nq) := Below.drewN' (Below.refl _ _) nq
      have nboq := (hbq.block _ ls).trans nbo
      have lsq := (Array.getElem?_eq_some_iff.1 nboq).1
      have k7q := (hbq.cell (p := ⟨L.tb, 7, none⟩) l1).trans k7'
      have k8q := (hbq.cell (p := ⟨L.tb, 8, none⟩) l1).trans k8'
      have hownq := ownsRow_below hown1 hbq (Nat.le_refl _)
      have hb2q := hb2.trans (hbq.mono hb2.size)
      have l1q : L.tb < (w0.drewN nq).heap.size := Nat.lt_of_lt_of_le l1 hbq.size
      have hszq := hb2q.size
      clear f1 nbo ls k0' k1' k7' k8' hown1 hb2 l1 hsz hbq
      generalize w0.drewN nq = wq at *
      obtain ⟨f1, _⟩ := nb_facts nboq
      go_wp2_with fail
      refine (hlive.out _ hb2q).mono ?_
      rintro e w2 ⟨rfl, rfl⟩
      clear hlive
      go_wp2_with (at_builtin; go_must (refine wpList_append_own _ rfl _ _ 107 rfl B 129 i0 (.pointer none) 1 8 Try.underlying107 hi hz0 hz1 hz2 rfl (by decide) _ _ _ rfl ((hownq.alloc _).alloc _) ⟨w2.heap.size + 1, 0, none⟩ 1 1 [.pointer (some ⟨w2.heap.size, 0, none⟩)] rfl rfl ?c1 ?c2 ?c3 ?c4 ?c5 ?_))
      case c1 => exact cells_new_at' _ [Value.pointer (some ⟨w2.heap.size, 0, none⟩)] _ _ (by simp)
      case c2 => intro u hu; simp at hu; subst hu; rfl
      case c3 => unfold maxLen; omega
      case c4 => omega
      case c5 => simp; omega
      · intro x' w3 hown' hgrow _
        have hnt := HNT.out
        have ht0 : w3.heap[L.tb]? = w2.heap[L.tb]? := by
          rw [hgrow.block L.tb (by simp; omega) hnt, Below.heap_alloc _ _ _ (by simp; omega), Below.heap_alloc _ _ _ l1q]
        have hfin := HPU.out _ w3 w2.heap.size x' ((hb2q.alloc hszq _).alloc (by simp; omega) _) (by
          rw [HNP.out, Below.heap_alloc _ _ _ (by simp)]
          exact nb_alloc _ _ _) hszq hown' hgrow
        replace hfin : Hid _ := hfin
        have d8 := (World.cell?_of_block (a := ⟨L.tb, 8, none⟩) ht0).trans k8q
        have d8f : w3.frozen? ⟨L.tb, 8, none⟩ = false := (World.frozen?_of_block (a := ⟨L.tb, 8, none⟩) ht0).trans ((World.frozen?_of_block (a := ⟨L.tb, 8, none⟩) (hb2q.block L.tb l0)).trans HFZ.out)
        obtain ⟨ao', cp', rfl, _⟩ := ownsRow_cells hown'
        clear hown' hgrow ht0 HPU HNP f1 k7q k8q hownq hnt
        go_wp2
        go_ret2
        exact ⟨rfl, ⟨_, _, hfin.out.1⟩, hfin.out.2⟩
    · have bn1 : (node == 1) = false := by simp [hn1]
      rw [hc] at hch
      have HNP : Hid (newPr ⟨kind, val, node⟩ = ⟨kind, val, node, 0, 1, 0, 0, 0, 0, 0, -1, 0, 0⟩) := by show _ = _; rw [newPr, hc]; simp [hn1]
      clear hc hn1
      go_enter Try.func64, Try.ntmps64
      go_wp2_with fail
      refine (hch.out _).mono ?_
      rintro e w0 ⟨rfl, hb1⟩
      have nbo : w0.heap[w.heap.size]? = some (.cells #[I kind, I val, I node] 33 (0, 0)) := (hb1.block _ (by simp)).trans (nb_alloc _ _ _)
      have hb2 : Below w.heap.size w w0 := ((Below.refl _ _).alloc (Nat.le_refl _) _).trans (hb1.mono (by simp))
      have l1 : L.tb < w0.heap.size := Nat.lt_of_lt_of_le l0 hb2.size
      have ls := (Array.getElem?_eq_some_iff.1 nbo).1
      have k0' := (hb2.cell (p := ⟨L.tb, 0, none⟩) l0).trans c0
      have k1' := (hb2.cell (p := ⟨L.tb, 1, none⟩) l0).trans c1
      have k7' := (hb2.cell (p := ⟨L.tb, 7, none⟩) l0).trans c7
      have k8' := (hb2.cell (p := ⟨L.tb, 8, none⟩) l0).trans c8
      have hown1 := ownsRow_below hown hb2 (Nat.le_refl _)
      have hsz := hb2.size
      obtain ⟨f1, _⟩ := nb_facts nbo
      clear hb1 c0 c1 c7 c8 hch hown
      go_wp2_with fail
      go_quiet (fail)
      have hbq : Below w0.heap.size w0 (w0.drewN nq) := Below.drewN' (Below.refl _ _) nq
      have nboq := (hbq.block _ ls).trans nbo
      have lsq := (Array.getElem?_eq_some_iff.1 nboq).1
      have k7q := (hbq.cell (p := ⟨L.tb, 7, none⟩) l1).trans k7'
      have k8q := (hbq.cell (p := ⟨L.tb, 8, none⟩) l1).trans k8'
      have hownq := ownsRow_below hown1 hbq (Nat.le_refl _)
      have hb2q := hb2.trans (hbq.mono hb2.size)
      have l1q : L.tb < (w0.drewN nq).heap.size := Nat.lt_of_lt_of_le l1 hbq.size
      have hszq := hb2q.size
      clear f1 nbo ls k0' k1' k7' k8' hown1 hb2 l1 hsz hbq
      generalize w0.drewN nq = wq at *
      obtain ⟨f1, _⟩ := nb_facts nboq
      go_wp2_with fail
      refine (hlive.out _ hb2q).mono ?_
      rintro e w2 ⟨rfl, rfl⟩
      clear hlive
      go_wp2_with (at_builtin; go_must (refine wpList_append_own _ rfl _ _ 107 rfl B 129 i0 (.pointer none) 1 8 Try.underlying107 hi hz0 hz1 hz2 rfl (by decide) _ _ _ rfl ((hownq.alloc _).alloc _) ⟨w2.heap.size + 1, 0, none⟩ 1 1 [.pointer (some ⟨w2.heap.size, 0, none⟩)] rfl rfl ?c1 ?c2 ?c3 ?c4 ?c5 ?_))
      case c1 => exact cells_new_at' _ [Value.pointer (some ⟨w2.heap.size, 0, none⟩)] _ _ (by simp)
      case c2 => intro u hu; simp at hu; subst hu; rfl
      case c3 => unfold maxLen; omega
      case c4 => omega
      case c5 => simp; omega
      · intro x' w3 hown' hgrow _
        have hnt := HNT.out
        have ht0 : w3.heap[L.tb]? = w2.heap[L.tb]? := by
          rw [hgrow.block L.tb (by simp; omega) hnt, Below.heap_alloc _ _ _ (by simp; omega), Below.heap_alloc _ _ _ l1q]
        have hfin := HPU.out _ w3 w2.heap.size x' ((hb2q.alloc hszq _).alloc (by simp; omega) _) (by
          rw [HNP.out, Below.heap_alloc _ _ _ (by simp)]
          exact nb_alloc _ _ _) hszq hown' hgrow
        replace hfin : Hid _ := hfin
        have d8 := (World.cell?_of_block (a := ⟨L.tb, 8, none⟩) ht0).trans k8q
        have d8f : w3.frozen? ⟨L.tb, 8, none⟩ = false := (World.frozen?_of_block (a := ⟨L.tb, 8, none⟩) ht0).trans ((World.frozen?_of_block (a := ⟨L.tb, 8, none⟩) (hb2q.block L.tb l0)).trans HFZ.out)
        obtain ⟨ao', cp', rfl, _⟩ := ownsRow_cells hown'
        clear hown' hgrow ht0 HPU HNP f1 k7q k8q hownq hnt
        go_wp2
        go_ret2
        exact ⟨rfl, ⟨_, _, hfin.out.1⟩, hfin.out.2⟩

end Go.Proofs.Ytjnmpejcegmkhaa
