/- The contract of package prismref's Nodes. No statement of the seat is proved here. -/
import Derived.Test.YtjnmpejcegmkhaaRef3
import Derived.Test.YtjnmpejcegmkhaaRef5
namespace Go.Proofs.Ytjnmpejcegmkhaa
open Go.RowKit

/-- What is told of a node. -/
structure ND where
  num : Int
  depth : Int
  rank : Int
  inner : Bool
  shut : Bool
  inside : Int
  toggle : Int
  width : Int
  waiting : List Int
  puts : Int
  gets : Int
  items : List Int

/-- One node's cells; wv, iv: its two lists as values. -/
def ndCells (d : ND) (wv iv : Value) : List Value :=
  [I d.num, I d.depth, I d.rank, .bool d.inner, .bool d.shut, I d.inside, I d.toggle, I d.width, wv, I d.puts, I d.gets, iv]
def ndsCells (l : List (ND × Value × Value)) : List Value := l.flatMap fun y => ndCells y.1 y.2.1 y.2.2

/-- x is a list of nodes that lies in blocks from b on. -/
structure NodesRep (w : World) (b : Nat) (x : Value) (l : List (ND × Value × Value)) : Prop where
  row : w.ownsRow b 49 12 x l.length (ndsCells l)
  waiting : ∀ y ∈ l, w.ownsRow b 3 1 y.2.1 y.1.waiting.length (y.1.waiting.map I)
  items : ∀ y ∈ l, w.ownsRow b 3 1 y.2.2 y.1.items.length (y.1.items.map I)

theorem NodesRep.below {w w' : World} {b C : Nat} {x : Value} {l : List (ND × Value × Value)} (h : NodesRep w b x l) (hb : Below C w w') (hC : w.heap.size ≤ C) : NodesRep w' b x l :=
  ⟨ownsRow_below h.row hb hC, fun y hy => ownsRow_below (h.waiting y hy) hb hC, fun y hy => ownsRow_below (h.items y hy) hb hC⟩

structure Lay.Ok (L : Lay) : Prop where
  np : L.procs.length ≤ 256
  past : L.past.length ≤ 64
  width0 : 0 ≤ L.c.width
  width4 : L.c.width ≤ 4
  procs : ∀ i, (hi : i < L.procs.length) → NodeOk (L.procs[i]).2
  n0 : ∀ v, v < L.past.length → 0 ≤ (fromH (L.hist v)).1.n
  n9 : ∀ v, v < L.past.length → putsH (L.hist v) ≤ 1000000000000
  t9 : ∀ v, v < L.past.length → manyH 4 (-1) (L.hist v) ≤ 1000000000000

def waitTo (v : Int) (ps : List (Nat × Pr)) (k : Nat) : List Int := (List.range k).map fun j : Nat => waitsL v (j : Int) ps 0

def rnode (L : Lay) (v : Nat) : ND :=
  if formH (L.hist v) = 1 then
    ⟨v, Nat.log2 v, rank v, true, shutL v L.procs, insideL v L.procs, ((fromH (L.hist v)).1.n + manyH 4 (-1) (L.hist v)) % 2, widthH (L.hist v), waitTo v L.procs L.c.width.toNat, 0, 0, []⟩
  else ⟨v, Nat.log2 v, rank v, false, shutL v L.procs, insideL v L.procs, 0, 0, [], putsH (L.hist v), manyH 7 (-1) (L.hist v), itemsH (L.hist v)⟩
def rnodesTo (L : Lay) (k : Nat) : List ND := (List.range k).filterMap fun v => if v = 0 ∨ formH (L.hist v) = 3 then none else some (rnode L v)
def rnodes (L : Lay) : List ND := rnodesTo L L.past.length

theorem rnodesTo_succ (L : Lay) (k : Nat) : rnodesTo L (k + 1) = rnodesTo L k ++ (if k = 0 ∨ formH (L.hist k) = 3 then [] else [rnode L k]) := by
  simp only [rnodesTo, List.range_succ, List.filterMap_append]
  congr 1
  by_cases h : k = 0 ∨ formH (L.hist k) = 3 <;> simp [h]

theorem rnodesTo_le (L : Lay) (k : Nat) : (rnodesTo L k).length ≤ k := by
  have := List.length_filterMap_le (fun v => if v = 0 ∨ formH (L.hist v) = 3 then none else some (rnode L v)) (List.range k)
  simpa [rnodesTo] using this

theorem Try.info49 : (Try.prog.info? 49).map (fun i => (i.zero, i.size, i.bytes)) = some (some (.agg #[.int .i64 0, .int .i64 0, .int .i64 0, .bool false, .bool false, .int .i64 0, .int .i64 0, .int .i64 0, .slice none 0 0, .int .i64 0, .int .i64 0, .slice none 0 0]), 12, 120) := by kernel_rfl

theorem nb_facts {w : World} {nb : Nat} {arr : Array Value} {T : TypeId} (h : w.heap[nb]? = some (.cells arr T (0, 0))) :
    (∀ j, w.cell? ⟨nb, j, none⟩ = arr[j]?) ∧ (∀ j, w.frozen? ⟨nb, j, none⟩ = false) :=
  ⟨fun j => by simp [World.cell?, h], fun j => by simp [World.frozen?, h]⟩

theorem nb_set {w : World} {nb : Nat} {arr : Array Value} {T : TypeId} (h : w.heap[nb]? = some (.cells arr T (0, 0))) (j : Nat) (x : Value) :
    (w.setCell ⟨nb, j, none⟩ x).heap[nb]? = some (.cells (arr.setIfInBounds j x) T (0, 0)) := by
  simp [World.setCell, Array.getElem?_modify, h]

theorem nb_alloc (w : World) (arr : Array Value) (T : TypeId) : (w.alloc (.cells arr T)).heap[w.heap.size]? = some (.cells arr T (0, 0)) := by
  show (w.heap.push _)[w.heap.size]? = _
  simp

theorem ownsRow_mono {w : World} {b b' : Nat} {e : TypeId} {size : Nat} {v : Value} {n : Nat} {xs : List Value} (h : w.ownsRow b e size v n xs) (hb : b' ≤ b) : w.ownsRow b' e size v n xs := by
  obtain ⟨h1, h2⟩ := h
  refine ⟨h1, ?_⟩
  rcases h2 with h2 | ⟨g, cap, cur, hv, hg, r⟩
  · exact Or.inl h2
  · exact Or.inr ⟨g, cap, cur, hv, Nat.le_trans hb hg, r⟩

theorem ownsRow_block {w : World} {b : Nat} {e : TypeId} {size : Nat} {v : Value} {n : Nat} {xs : List Value} (h : w.ownsRow b e size v n xs) {g : Nat} (hg : v.ownBlock = some g) : ∃ cur, w.heap[g]? = some (.cells cur e (0, 0)) := by
  obtain ⟨_, h2⟩ := h
  rcases h2 with ⟨rfl, _⟩ | ⟨g', cap, cur, rfl, _, hh, _⟩
  · simp [Value.ownBlock] at hg
  · simp [Value.ownBlock] at hg
    subst hg
    exact ⟨cur, hh⟩

/-- A row keeps what it holds while a block of another type is written. -/
theorem ownsRow_setCell_type {w : World} {b : Nat} {e : TypeId} {size : Nat} {v : Value} {n : Nat} {xs : List Value} (h : w.ownsRow b e size v n xs) {nb : Nat} {arr : Array Value} {T : TypeId} {f : Nat × Nat}
    (hn : w.heap[nb]? = some (.cells arr T f)) (hne : T ≠ e) (j : Nat) (x : Value) : (w.setCell ⟨nb, j, none⟩ x).ownsRow b e size v n xs := by
  obtain ⟨h1, h2⟩ := h
  refine ⟨h1, ?_⟩
  rcases h2 with h2 | ⟨g, cap, cur, hv, hg, hh, r⟩
  · exact Or.inl h2
  · refine Or.inr ⟨g, cap, cur, hv, hg, ?_, r⟩
    rw [Below.heap_setCell _ _ _ _ (by
      intro e1
      simp at e1
      subst e1
      rw [hn] at hh
      simp at hh
      exact hne hh.2.1)]
    exact hh

/-- A row keeps what it holds while a row of another type grows. -/
theorem ownsRow_kept_type {w w' : World} {b b' : Nat} {e e' : TypeId} {size size' : Nat} {v v' : Value} {n n' : Nat} {xs xs' : List Value} (h : w.ownsRow b e size v n xs) (h' : w.ownsRow b' e' size' v' n' xs') (hne : e ≠ e')
    (hg : w.grownBy w' v'.ownBlock) : w'.ownsRow b e size v n xs := by
  refine h.kept hg ?_
  cases hv : v.ownBlock with
  | none => exact Or.inl rfl
  | some g =>
    refine Or.inr fun he => ?_
    obtain ⟨c1, h1⟩ := ownsRow_block h hv
    obtain ⟨c2, h2⟩ := ownsRow_block h' he.symm
    rw [h1] at h2
    simp at h2
    exact hne h2.2

/-- A block keeps what it holds while a row of another type grows. -/
theorem block_kept_type {w w' : World} {b' : Nat} {e' : TypeId} {size' : Nat} {v' : Value} {n' : Nat} {xs' : List Value} {nb : Nat} {arr : Array Value} {T : TypeId} {f : Nat × Nat} (h : w.heap[nb]? = some (.cells arr T f)) (h' : w.ownsRow b' e' size' v' n' xs') (hne : T ≠ e')
    (hg : w.grownBy w' v'.ownBlock) : w'.heap[nb]? = some (.cells arr T f) := by
  rw [hg.block nb (Array.getElem?_eq_some_iff.1 h).1 (by
    intro he
    obtain ⟨c2, h2⟩ := ownsRow_block h' he.symm
    rw [h] at h2
    simp at h2
    exact hne h2.2.1)]
  exact h

theorem nodes_snoc {w w3 : World} {o : Obj} {b nw ni : Nat} {x x' : Value} {l : List (ND × Value × Value)} {d : ND} {wv iv : Value} (h : NodesRep w b x l)
    (hw : w.ownsRow b 3 1 wv nw (d.waiting.map I)) (hi : w.ownsRow b 3 1 iv ni (d.items.map I))
    (hown : w3.ownsRow b 49 12 x' (l.length + 1) (ndsCells l ++ ndCells d wv iv)) (hg : (w.alloc o).grownBy w3 x.ownBlock) : NodesRep w3 b x' (l ++ [(d, wv, iv)]) where
  row := by simpa [ndsCells] using hown
  waiting := fun y hy => by
    rcases List.mem_append.1 hy with hy | hy
    · exact ownsRow_kept_type ((h.waiting y hy).alloc o) (h.row.alloc o) (by decide) hg
    · simp at hy; subst hy
      have : nw = d.waiting.length := by have := hw.1; simpa using this.symm
      subst this
      exact ownsRow_kept_type (hw.alloc o) (h.row.alloc o) (by decide) hg
  items := fun y hy => by
    rcases List.mem_append.1 hy with hy | hy
    · exact ownsRow_kept_type ((h.items y hy).alloc o) (h.row.alloc o) (by decide) hg
    · simp at hy; subst hy
      have : ni = d.items.length := by have := hi.1; simpa using this.symm
      subst this
      exact ownsRow_kept_type (hi.alloc o) (h.row.alloc o) (by decide) hg

theorem cells_new (w : World) (xs : List Value) (T : TypeId) : ∀ (j : Nat) (u : Value), xs[j]? = some u → (w.alloc (.cells xs.toArray T)).cell? ((⟨w.heap.size, 0, none⟩ : Addr).add j) = some u := by
  intro j u h
  have h2 := nb_alloc w xs.toArray T
  have h3 := (nb_facts h2).1 j
  have e : ((⟨w.heap.size, 0, none⟩ : Addr).add j) = ⟨w.heap.size, j, none⟩ := by
    unfold Addr.add
    split <;> simp_all
  rw [e, h3]
  simpa using h

theorem nd_one (d : ND) (a : Option Addr) (n c : Nat) (a' : Option Addr) (n' c' : Nat) : ∀ u ∈ ndCells d (.slice a n c) (.slice a' n' c'), u.oneCell' = true := by
  intro u hu
  simp only [ndCells, List.mem_cons, List.not_mem_nil, or_false] at hu
  rcases hu with h | h | h | h | h | h | h | h | h | h | h | h <;> subst h <;> rfl

theorem waitTo_succ (v : Int) (ps : List (Nat × Pr)) (k : Nat) : waitTo v ps (k + 1) = waitTo v ps k ++ [waitsL v k ps 0] := by
  simp [waitTo, List.range_succ]
theorem waitTo_length (v : Int) (ps : List (Nat × Pr)) (k : Nat) : (waitTo v ps k).length = k := by simp [waitTo]

set_option maxHeartbeats 4000000 in
set_option maxRecDepth 100000 in
theorem rnodes_c {w : World} {B : Nat} {L : Lay} (h : RefRep w B L) (ok : L.Ok) (hlen : 1 ≤ L.past.length) :
    Calls Try.prog 93 #[.pointer (some ⟨L.tb, 0, none⟩)] w fun e w' => ∃ x l, e = .returned x ∧ NodesRep w' w.heap.size x l ∧ l.map (fun y => y.1) = rnodes L ∧ Below w.heap.size w w' := by
  have h1 := h.hv_cell
  obtain ⟨ao, cap, e1, c1, c2, c3, _⟩ := ownsRow_cells h.hrow
  rw [e1] at h1
  have l0 := h.size
  obtain ⟨WD, hWD⟩ : ∃ WD : Nat, L.c.width = WD := ⟨L.c.width.toNat, by have := ok.width0; omega⟩
  have h4 : w.cell? ⟨L.tb, 4, none⟩ = some (I WD) := by rw [block_cell h.tree, ← hWD]; rfl
  have hWD4 : WD ≤ 4 := by have := ok.width4; omega
  have hWN : L.c.width.toNat = WD := by omega
  have HWD : Hid (L.c.width.toNat = WD) := hWN
  clear hWD hWN
  have hok := ok.past
  obtain ⟨i3, hi3, hz30, hz31, hz32⟩ := info_parts Try.info3
  obtain ⟨i65, hi65, hz650, hz651, hz652⟩ := info_parts Try.info49
  go_enter Try.func93, Try.ntmps93
  go_wp2_with fail
  go_loopw [3, 4] (fun x i wr => ∃ (k : Nat) (l : List (ND × Value × Value)), 1 ≤ k ∧ k ≤ L.past.length ∧ i = .int .i64 k ∧ NodesRep wr w.heap.size x l ∧ l.map (fun y => y.1) = rnodesTo L k ∧ Below w.heap.size w wr) (fun _ i _ => L.past.length - (intOf i).toNat)
  case atStart => exact ⟨1, [], by omega, hlen, rfl, ⟨World.ownsRow_nil _ _ _ _, fun y hy => absurd hy (by simp), fun y hy => absurd hy (by simp)⟩, by simp [rnodesTo], Below.refl _ _⟩
  case round =>
    obtain ⟨k, l, hk1, hk, rfl, hrep, hl, hbr⟩ := hrel
    have HL : Hid (l.map (fun y => y.1) = rnodesTo L k) := hl
    clear hl
    obtain ⟨ao2, cp2, rfl, d4, d5, d6, _⟩ := ownsRow_cells hrep.row
    have k1 := (hbr.cell (p := ⟨L.tb, 9, none⟩) l0).trans h1
    have k4 := (hbr.cell (p := ⟨L.tb, 4, none⟩) l0).trans h4
    have l9 : L.tb < wr.heap.size := Nat.lt_of_lt_of_le l0 hbr.size
    by_cases hlt : k < L.past.length
    · have hc := form_c (h.below hbr) k hlt
      have hsu := rnodesTo_succ L k
      by_cases h3 : formH (L.hist k) = 3
      · rw [h3] at hc
        rw [if_pos (Or.inr h3), List.append_nil] at hsu
        have HE : Hid (rnodesTo L (k + 1) = rnodesTo L k) := hsu
        clear hsu h3
        go_wp2_with fail
        refine hc.mono ?_
        rintro x w1 ⟨rfl, rfl⟩
        clear hc
        go_wp2
        go_roundw
        case rel => exact ⟨k + 1, l, by omega, by omega, by go_num, hrep, by rw [HE.out]; exact HL.out, hbr⟩
        case measure => simp [intOf]; omega
      · rw [if_neg (by omega)] at hsu
        have b3 : (formH (L.hist k) == 3) = false := by simp [h3]
        have HE : Hid (rnodesTo L (k + 1) = rnodesTo L k ++ [rnode L k]) := hsu
        clear hsu h3
        have hc1 := depth_c k (by omega) wr
        have hc2 := rank_c k (by omega) wr
        have hc3 := shut_c (h.below hbr) k
        have hc4 := inside_c (h.below hbr) ok.procs k
        go_wp2_with fail
        refine hc.mono ?_
        rintro x w1 ⟨rfl, rfl⟩
        clear hc
        go_wp2_with fail
        refine hc1.mono ?_
        rintro x w1 ⟨rfl, rfl⟩
        clear hc1
        go_wp2_with fail
        refine hc2.mono ?_
        rintro x w1 ⟨rfl, rfl⟩
        clear hc2
        go_wp2_with fail
        refine hc3.mono ?_
        rintro x w1 ⟨rfl, rfl⟩
        clear hc3
        go_wp2_with fail
        refine hc4.mono ?_
        rintro x w1 ⟨rfl, rfl⟩
        clear hc4
        by_cases hf1 : formH (L.hist k) = 1
        · have b1 : (formH (L.hist k) == 1) = true := by simp [hf1]
          have HN : Hid (rnode L k = ⟨k, Nat.log2 k, rank k, true, shutL k L.procs, insideL k L.procs, ((fromH (L.hist k)).1.n + manyH 4 (-1) (L.hist k)) % 2, widthH (L.hist k), waitTo k L.procs L.c.width.toNat, 0, 0, []⟩) := by
            show _ = _; rw [rnode, if_pos hf1]
          clear hf1
          have ht := fun w' (hb : Below w.heap.size w w') => toggle_c (h.below hb) k hlt (ok.n0 k hlt) (by have := ok.n9 k hlt; unfold putsH at this; omega) (by have := ok.t9 k hlt; omega)
          have hw := fun w' (hb : Below w.heap.size w w') => width_c (h.below hb) k hlt
          have hwt := fun w' (hb : Below w.heap.size w w') sl => waits_c (h.below hb) k sl
          have H1 := ht
          replace H1 : Hid (∀ w', Below w.heap.size w w' → Calls Try.prog 83 #[.pointer (some ⟨L.tb, 0, none⟩), I k] w' fun e w'' => e = .returned (I (((fromH (L.hist k)).1.n + manyH 4 (-1) (L.hist k)) % 2)) ∧ Below w'.heap.size w' w'') := H1
          have H2 := hw
          replace H2 : Hid (∀ w', Below w.heap.size w w' → Calls Try.prog 118 #[.pointer (some ⟨L.tb, 0, none⟩), I k] w' fun e w'' => e = .returned (I (widthH (L.hist k))) ∧ w'' = w') := H2
          have H3 := hwt
          replace H3 : Hid (∀ w', Below w.heap.size w w' → ∀ sl, Calls Try.prog 119 #[.pointer (some ⟨L.tb, 0, none⟩), I k, I sl] w' fun e w'' => e = .returned (I (waitsL k sl L.procs 0)) ∧ w'' = w') := H3
          clear ht hw hwt
          generalize ((fromH (L.hist k)).1.n + manyH 4 (-1) (L.hist k)) % 2 = tog at *
          generalize widthH (L.hist k) = wid at *
          generalize shutL k L.procs = sh at *
          generalize insideL k L.procs = ins at *
          generalize Nat.log2 k = dep at *
          generalize rank k = rk at *
          go_wp2_with fail
          have hb2 := (Below.refl w1.heap.size w1).alloc (Nat.le_refl _) (.cells #[I k, I dep, I rk, .bool true, .bool sh, I ins, I 0, I 0, .slice none 0 0, I 0, I 0, .slice none 0 0] 49)
          have nb2 := nb_alloc w1 #[I k, I dep, I rk, .bool true, .bool sh, I ins, I 0, I 0, .slice none 0 0, I 0, I 0, .slice none 0 0] 49
          refine (H1.out _ (hbr.trans (hb2.mono hbr.size))).mono ?_
          rintro x w2 ⟨rfl, hb3⟩
          have nb3 := hb3.block w1.heap.size (by simp)
          rw [nb2] at nb3
          have hb4 := hb2.trans (hb3.mono hb2.size)
          have hnbB : w.heap.size ≤ w1.heap.size := hbr.size
          clear nb2 hb2 hb3 H1
          obtain ⟨nb, hnb⟩ : ∃ nb, nb = w1.heap.size := ⟨_, rfl⟩
          rw [← hnb] at nb3 hb4 hnbB
          rw [← hnb]
          have HNB : Hid (nb = w1.heap.size) := hnb
          clear hnb
          have hst : ∀ W, Below nb w1 W → Below w.heap.size w W := fun W hW => hbr.trans (hW.mono (by have := HNB.out; have := hbr.size; omega))
          have HST : Hid (∀ W, Below nb w1 W → Below w.heap.size w W) := hst
          clear hst
          obtain ⟨f1, f2⟩ := nb_facts nb3
          go_wp2_with fail
          have nb4 := nb_set nb3 6 (I tog)
          have hb5 := hb4.setCell (p := ⟨nb, 6, none⟩) (Nat.le_refl _) (I tog)
          clear nb3 hb4 f1 f2
          generalize w2.setCell ⟨nb, 6, none⟩ (I tog) = w3 at *
          refine (H2.out _ (HST.out _ hb5)).mono ?_
          rintro x w4 ⟨rfl, rfl⟩
          simp only [Array.setIfInBounds] at nb4
          obtain ⟨f1, f2⟩ := nb_facts nb4
          go_wp2_with fail
          have nb5 := nb_set nb4 7 (I wid)
          have hb6 := hb5.setCell (p := ⟨nb, 7, none⟩) (Nat.le_refl _) (I wid)
          clear nb4 hb5 f1 f2 H2
          generalize w4.setCell ⟨nb, 7, none⟩ (I wid) = w5 at *
          simp only [Array.setIfInBounds] at nb5
          go_loopw [7, 8] (fun i _ wr => ∃ (j : Nat) (wv : Value), j ≤ WD ∧ i = .int .i64 j ∧ wr.heap[nb]? = some (.cells #[I k, I dep, I rk, .bool true, .bool sh, I ins, I tog, I wid, wv, I 0, I 0, .slice none 0 0] 49 (0, 0)) ∧ wr.ownsRow nb 3 1 wv j ((waitTo k L.procs j).map I) ∧ Below nb w1 wr) (fun i _ _ => WD - (intOf i).toNat)
          case atStart => exact ⟨0, .slice none 0 0, Nat.zero_le _, rfl, nb5, World.ownsRow_nil _ _ _ _, hb6⟩
          case round =>
            obtain ⟨j, wv, hj, rfl, nb6, hown, hb7⟩ := hrel
            have l10 : L.tb < nb := by have := HNB.out; omega
            have hcw := (hb7.cell (p := ⟨L.tb, 4, none⟩) l10).trans k4
            obtain ⟨f1, f2⟩ := nb_facts nb6
            by_cases hjl : j < WD
            · go_wp2_with fail
              refine (H3.out _ (HST.out _ hb7) j).mono ?_
              rintro x w6 ⟨rfl, rfl⟩
              have hsz : nb ≤ w6.heap.size := by have := HNB.out; have := hb7.size; omega
              have hwts := waitTo_succ k L.procs j
              have HW : Hid (waitTo k L.procs (j + 1) = waitTo k L.procs j ++ [waitsL k j L.procs 0]) := hwts
              clear hwts
              generalize waitsL k j L.procs 0 = y at *
              go_wp2_with (at_builtin; refine wpList_append_own _ rfl _ _ 27 rfl nb 3 i3 (.int .i64 0) 1 8 Try.underlying27 hi3 hz30 hz31 hz32 rfl (by decide) _ _ _ rfl (hown.alloc _) ⟨w6.heap.size, 0, none⟩ 1 1 [.int .i64 y] rfl rfl ?c1 ?c2 ?c3 ?c4 ?c5 ?_)
              case c1 => exact cell_one_new _ _ _
              case c2 => intro u hu; simp at hu; subst hu; rfl
              case c3 => unfold maxLen; omega
              case c4 => omega
              case c5 => simp; omega
              · intro x' w7 hown' hgrow _
                have nb7 := block_kept_type (by rw [Below.heap_alloc _ _ _ (Array.getElem?_eq_some_iff.1 nb6).1]; exact nb6) (hown.alloc _) (by decide) hgrow
                have hb8 : Below nb w1 w7 := (hb7.alloc (by have := HNB.out; have := hb7.size; omega) _).grown hgrow (by have := HNB.out; have := hb7.size; simp; omega) (by
                  intro g hg
                  exact (hown.lt g hg).1)
                clear f1 f2 hgrow
                obtain ⟨ao', cp', rfl, _⟩ := ownsRow_cells hown'
                obtain ⟨f1, f2⟩ := nb_facts nb7
                go_wp2
                go_roundw
                case rel => exact ⟨j + 1, _, by omega, by go_num, by have := nb_set nb7 8 (.slice ao' (j + 1) cp'); simpa [Array.setIfInBounds] using this, ownsRow_setCell_type (by rw [HW.out]; simpa using hown') nb7 (by decide) 8 _, hb8.setCell (Nat.le_refl _) _⟩
                case measure => simp [intOf]; omega
            · have e : j = WD := by omega
              subst e
              have hrepW := hrep.below hb7 (by have := HNB.out; omega)
              obtain ⟨ao', cp', rfl, _⟩ := ownsRow_cells hown
              have hsz : w.heap.size ≤ wr.heap.size := by have := HNB.out; have := hb7.size; omega
              have hll : l.length ≤ 64 := by
                have := congrArg List.length HL.out
                simp only [List.length_map] at this
                have := rnodesTo_le L k
                omega
              go_wp2_with (at_builtin; go_must (refine wpList_append_own _ rfl _ _ 40 rfl w.heap.size 49 i65 _ 12 120 Try.underlying40 hi65 hz650 hz651 hz652 rfl (by decide) _ _ _ rfl (hrepW.row.alloc _) ⟨_, 0, none⟩ 1 1 (ndCells ⟨k, dep, rk, true, sh, ins, tog, wid, waitTo k L.procs j, 0, 0, []⟩ (.slice ao' j cp') (.slice none 0 0)) rfl rfl ?c1 ?c2 ?c3 ?c4 ?c5 ?_))
              case c1 => exact cells_new _ _ _
              case c2 => exact nd_one _ _ _ _ _ _ _
              case c3 => unfold maxLen; omega
              case c4 => omega
              case c5 => simp; omega
              · intro x' w7 hown' hgrow _
                have hrep' := nodes_snoc (d := ⟨k, dep, rk, true, sh, ins, tog, wid, waitTo k L.procs j, 0, 0, []⟩) hrepW (ownsRow_mono hown (by have := HNB.out; omega)) (World.ownsRow_nil _ _ _ _) hown' hgrow
                have hb9 : Below w.heap.size w w7 := ((HST.out _ hb7).alloc hsz _).grown hgrow (by simp; omega) (fun g hg => (hrepW.row.lt g hg).1)
                clear hown' hgrow hrepW hown f1 f2 nb6 hrep
                go_wp2
                go_roundw
                case rel => exact ⟨k + 1, _, by omega, by omega, by go_num, hrep', by rw [List.map_append, HL.out, HE.out, HN.out, HWD.out]; rfl, hb9⟩
                case measure => simp [intOf]; omega
        · have b1 : (formH (L.hist k) == 1) = false := by simp [hf1]
          have HN : Hid (rnode L k = ⟨k, Nat.log2 k, rank k, false, shutL k L.procs, insideL k L.procs, 0, 0, [], putsH (L.hist k), manyH 7 (-1) (L.hist k), itemsH (L.hist k)⟩) := by
            show _ = _; rw [rnode, if_neg hf1]
          clear hf1
          have H1 := fun w' (hb : Below w.heap.size w w') => puts_c (h.below hb) k hlt (ok.n0 k hlt) (by have := ok.n9 k hlt; unfold putsH at this; omega) (by have := ok.n9 k hlt; have := ok.n0 k hlt; unfold putsH at *; omega)
          replace H1 : Hid (∀ w', Below w.heap.size w w' → Calls Try.prog 109 #[.pointer (some ⟨L.tb, 0, none⟩), I k] w' fun e w'' => e = .returned (I (putsH (L.hist k))) ∧ Below w'.heap.size w' w'') := H1
          have H2 := fun w' (hb : Below w.heap.size w w') => gets_c (h.below hb) k hlt
          replace H2 : Hid (∀ w', Below w.heap.size w w' → Calls Try.prog 111 #[.pointer (some ⟨L.tb, 0, none⟩), I k] w' fun e w'' => e = .returned (I (manyH 7 (-1) (L.hist k))) ∧ w'' = w') := H2
          have H3 := fun w' (hb : Below w.heap.size w w') => items_c (h.below hb) k hlt (ok.n0 k hlt) (ok.n9 k hlt)
          replace H3 : Hid (∀ w', Below w.heap.size w w' → Calls Try.prog 121 #[.pointer (some ⟨L.tb, 0, none⟩), I k] w' fun e w'' => ∃ x, e = .returned x ∧ w''.ownsRow w'.heap.size 3 1 x (itemsH (L.hist k)).length ((itemsH (L.hist k)).map I) ∧ Below w'.heap.size w' w'') := H3
          generalize putsH (L.hist k) = pu at *
          generalize manyH 7 (-1) (L.hist k) = ge at *
          generalize itemsH (L.hist k) = its at *
          generalize shutL k L.procs = sh at *
          generalize insideL k L.procs = ins at *
          generalize Nat.log2 k = dep at *
          generalize rank k = rk at *
          go_wp2_with fail
          have hb2 := (Below.refl w1.heap.size w1).alloc (Nat.le_refl _) (.cells #[I k, I dep, I rk, .bool false, .bool sh, I ins, I 0, I 0, .slice none 0 0, I 0, I 0, .slice none 0 0] 49)
          have nb2 := nb_alloc w1 #[I k, I dep, I rk, .bool false, .bool sh, I ins, I 0, I 0, .slice none 0 0, I 0, I 0, .slice none 0 0] 49
          refine (H1.out _ (hbr.trans (hb2.mono hbr.size))).mono ?_
          rintro x w2 ⟨rfl, hb3⟩
          have nb3 := hb3.block w1.heap.size (by simp)
          rw [nb2] at nb3
          have hb4 := hb2.trans (hb3.mono hb2.size)
          have hnbB : w.heap.size ≤ w1.heap.size := hbr.size
          clear nb2 hb2 hb3 H1
          obtain ⟨nb, hnb⟩ : ∃ nb, nb = w1.heap.size := ⟨_, rfl⟩
          rw [← hnb] at nb3 hb4 hnbB
          rw [← hnb]
          have HNB : Hid (nb = w1.heap.size) := hnb
          clear hnb
          have hst : ∀ W, Below nb w1 W → Below w.heap.size w W := fun W hW => hbr.trans (hW.mono (by have := HNB.out; have := hbr.size; omega))
          have HST : Hid (∀ W, Below nb w1 W → Below w.heap.size w W) := hst
          clear hst
          obtain ⟨f1, f2⟩ := nb_facts nb3
          go_wp2_with fail
          have nb4 := nb_set nb3 9 (I pu)
          have hb5 := hb4.setCell (p := ⟨nb, 9, none⟩) (Nat.le_refl _) (I pu)
          clear nb3 hb4 f1 f2
          generalize w2.setCell ⟨nb, 9, none⟩ (I pu) = w3 at *
          refine (H2.out _ (HST.out _ hb5)).mono ?_
          rintro x w4 ⟨rfl, rfl⟩
          simp only [Array.setIfInBounds] at nb4
          obtain ⟨f1, f2⟩ := nb_facts nb4
          go_wp2_with fail
          have nb5 := nb_set nb4 10 (I ge)
          have hb6 := hb5.setCell (p := ⟨nb, 10, none⟩) (Nat.le_refl _) (I ge)
          clear nb4 hb5 f1 f2 H2
          generalize w4.setCell ⟨nb, 10, none⟩ (I ge) = w5 at *
          simp only [Array.setIfInBounds] at nb5
          refine (H3.out _ (HST.out _ hb6)).mono ?_
          rintro x w6 ⟨iv, rfl, hown, hb7⟩
          have nb6 := (hb7.block nb (Array.getElem?_eq_some_iff.1 nb5).1).trans nb5
          have hb8 := hb6.trans (hb7.mono (by have := HNB.out; have := hb6.size; omega))
          have hsz6 : nb ≤ w5.heap.size := by have := HNB.out; have := hb6.size; omega
          obtain ⟨ao', cp', rfl, _⟩ := ownsRow_cells hown
          clear nb5 hb6 hb7
          obtain ⟨f1, f2⟩ := nb_facts nb6
          have nb7 := nb_set nb6 11 (.slice ao' its.length cp')
          simp only [Array.setIfInBounds] at nb7
          have hb9 := hb8.setCell (p := ⟨nb, 11, none⟩) (Nat.le_refl _) (.slice ao' its.length cp')
          have hown2 := ownsRow_setCell_type hown nb6 (by decide) 11 (.slice ao' its.length cp')
          have hrepW := hrep.below hb9 (by have := HNB.out; omega)
          have hsz : w.heap.size ≤ (w6.setCell ⟨nb, 11, none⟩ (.slice ao' its.length cp')).heap.size := by have := HNB.out; have := hb9.size; omega
          have hll : l.length ≤ 64 := by
            have := congrArg List.length HL.out
            simp only [List.length_map] at this
            have := rnodesTo_le L k
            omega
          obtain ⟨g1, g2⟩ := nb_facts nb7
          have HOWN : Hid _ := hown2
          have HREP : Hid _ := hrepW
          have HSZ : Hid _ := hsz
          have HB9 : Hid _ := hb9
          clear hown2 hrepW hsz hb9 nb7 hb8 hown nb6 hrep
          go_wp2_with (at_builtin; go_must (refine wpList_append_own _ rfl _ _ 40 rfl w.heap.size 49 i65 _ 12 120 Try.underlying40 hi65 hz650 hz651 hz652 rfl (by decide) _ _ _ rfl (HREP.out.row.alloc _) ⟨_, 0, none⟩ 1 1 (ndCells ⟨k, dep, rk, false, sh, ins, 0, 0, [], pu, ge, its⟩ (.slice none 0 0) (.slice ao' its.length cp')) rfl rfl ?c1 ?c2 ?c3 ?c4 ?c5 ?_))
          case c1 =>
            have e : (w6.setCell ⟨nb, 11, none⟩ (.slice ao' its.length cp')).heap.size = w6.heap.size := by simp [World.setCell]
            have := cells_new (w6.setCell ⟨nb, 11, none⟩ (.slice ao' its.length cp')) (ndCells ⟨k, dep, rk, false, sh, ins, 0, 0, [], pu, ge, its⟩ (.slice none 0 0) (.slice ao' its.length cp')) 49
            rw [e] at this
            exact this
          case c2 => exact nd_one _ _ _ _ _ _ _
          case c3 => unfold maxLen; omega
          case c4 => omega
          case c5 => have := HSZ.out; simp at this ⊢; omega
          · intro x' w7 hown' hgrow _
            have hrep' := nodes_snoc (d := ⟨k, dep, rk, false, sh, ins, 0, 0, [], pu, ge, its⟩) HREP.out (World.ownsRow_nil _ _ _ _) (ownsRow_mono HOWN.out (by omega)) hown' hgrow
            have hb10 : Below w.heap.size w w7 := ((HST.out _ HB9.out).alloc HSZ.out _).grown hgrow (by have := HSZ.out; simp at this ⊢; omega) (fun g hg => (HREP.out.row.lt g hg).1)
            clear hown' hgrow f1 f2 g1 g2
            go_wp2
            go_roundw
            case rel => exact ⟨k + 1, _, by omega, by omega, by go_num, hrep', by rw [List.map_append, HL.out, HE.out, HN.out]; rfl, hb10⟩
            case measure => simp [intOf]; omega
    · have e : k = L.past.length := by omega
      go_wp2_with fail
      go_ret
      exact ⟨_, l, rfl, hrep, by rw [HL.out, e]; rfl, hbr⟩

end Go.Proofs.Ytjnmpejcegmkhaa
