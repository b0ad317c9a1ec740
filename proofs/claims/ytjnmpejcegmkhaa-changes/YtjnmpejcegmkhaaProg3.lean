/- The contract of the program's Nodes. No statement of the seat is proved here. -/
import Derived.Test.YtjnmpejcegmkhaaProg2
namespace Go.Proofs.Ytjnmpejcegmkhaa
open Go.RowKit

/-- The nodes that are there. -/
def pnodesTo (L : PLay) (k : Nat) : List ND := (List.range k).filterMap fun v => if v = 0 ∨ (L.nodes.getD v zeroPN).there = false then none else some (pnode L.c v (L.nodes.getD v zeroPN))
def pnodes (L : PLay) : List ND := pnodesTo L 32
theorem pnodesTo_succ (L : PLay) (k : Nat) (hk : k < L.nodes.length) (h0 : k ≠ 0) : pnodesTo L (k + 1) = pnodesTo L k ++ (if (L.nodes[k]).there = false then [] else [pnode L.c k L.nodes[k]]) := by
  simp only [pnodesTo, List.range_succ, List.filterMap_append]
  congr 1
  have e : L.nodes.getD k zeroPN = L.nodes[k] := by simp [List.getD_eq_getElem?_getD, List.getElem?_eq_getElem hk]
  simp only [List.filterMap_cons, List.filterMap_nil, e, h0, false_or]
  cases (L.nodes[k]).there <;> simp
theorem pnodesTo_le (L : PLay) (k : Nat) : (pnodesTo L k).length ≤ k := by
  have := List.length_filterMap_le (fun v => if v = 0 ∨ (L.nodes.getD v zeroPN).there = false then none else some (pnode L.c v (L.nodes.getD v zeroPN))) (List.range k)
  simpa [pnodesTo] using this

theorem cells_new_at (w : World) (xs : List Value) (T : TypeId) (n : Nat) (hn : n = w.heap.size) : ∀ (j : Nat) (u : Value), xs[j]? = some u → (w.alloc (.cells xs.toArray T)).cell? ((⟨n, 0, none⟩ : Addr).add j) = some u := by
  subst hn; exact cells_new w xs T

/-- Rows and nodes stay while block b, of another type than the rows and above the nodes, is written. -/
structure KeepB (w0 wr : World) (B b : Nat) (T : TypeId) (x : Value) (l : List (ND × Value × Value)) (x1 : Value) (l1 : List Int) (x2 : Value) (l2 : List Int) (W : World) : Prop where
  blk : ∃ arr, W.heap[b]? = some (.cells arr T (0, 0))
  rep : NodesRep wr B x l
  r1 : W.ownsRow B 3 1 x1 l1.length (l1.map I)
  r2 : W.ownsRow B 3 1 x2 l2.length (l2.map I)
  below : Below B w0 wr
  above : Below b wr W
  hb : b = wr.heap.size
  hB : B ≤ b
  hT : T ≠ 3
theorem KeepB.set {w0 wr : World} {B b : Nat} {T : TypeId} {x : Value} {l : List (ND × Value × Value)} {x1 : Value} {l1 : List Int} {x2 : Value} {l2 : List Int} {W : World} (h : KeepB w0 wr B b T x l x1 l1 x2 l2 W) (j : Nat) (y : Value) : KeepB w0 wr B b T x l x1 l1 x2 l2 (W.setCell ⟨b, j, none⟩ y) := by
  obtain ⟨⟨arr, hb⟩, h0, h1, h2, h3, h4, h5, h6, h7⟩ := h
  exact ⟨⟨_, nb_set hb j y⟩, h0, ownsRow_setCell_type h1 hb h7 j y, ownsRow_setCell_type h2 hb h7 j y, h3, h4.setCell (Nat.le_refl _) y, h5, h6, h7⟩
theorem KeepB.nodes {w0 wr : World} {B b : Nat} {T : TypeId} {x : Value} {l : List (ND × Value × Value)} {x1 : Value} {l1 : List Int} {x2 : Value} {l2 : List Int} {W : World} (h : KeepB w0 wr B b T x l x1 l1 x2 l2 W) : NodesRep W B x l := h.rep.below h.above (by rw [h.hb]; exact Nat.le_refl _)
theorem KeepB.all {w0 wr : World} {B b : Nat} {T : TypeId} {x : Value} {l : List (ND × Value × Value)} {x1 : Value} {l1 : List Int} {x2 : Value} {l2 : List Int} {W : World} (h : KeepB w0 wr B b T x l x1 l1 x2 l2 W) : Below B w0 W := h.below.trans (h.above.mono h.hB)
theorem KeepB.size {w0 wr : World} {B b : Nat} {T : TypeId} {x : Value} {l : List (ND × Value × Value)} {x1 : Value} {l1 : List Int} {x2 : Value} {l2 : List Int} {W : World} (h : KeepB w0 wr B b T x l x1 l1 x2 l2 W) : B ≤ W.heap.size := by
  have := h.above.size; have := h.hb; have := h.hB; omega

theorem snoc_nodes_end {w w1 : World} {x x' : Value} {l : List (ND × Value × Value)} {d : ND} {wv iv : Value} {b : Nat} {o : Obj} (hrep : NodesRep w1 b x l)
    (r1 : w1.ownsRow b 3 1 wv d.waiting.length (d.waiting.map I)) (r2 : w1.ownsRow b 3 1 iv d.items.length (d.items.map I))
    (hbw : Below b w w1) (hb : b ≤ w1.heap.size) {w3 : World} (hown : w3.ownsRow b 49 12 x' (l.length + 1) (ndsCells l ++ ndCells d wv iv)) (hg : (w1.alloc o).grownBy w3 x.ownBlock) :
    NodesRep w3 b x' (l ++ [(d, wv, iv)]) ∧ Below b w w3 :=
  ⟨nodes_snoc hrep r1 r2 hown hg, (hbw.alloc hb _).grown hg (by simp; omega) (fun g hg' => (hrep.row.lt g hg').1)⟩

set_option maxHeartbeats 4000000 in
set_option maxRecDepth 100000 in
theorem pnodes_c {w : World} {B : Nat} {L : PLay} (h : PRep w B L) (hw0 : 0 ≤ L.c.width) (hw4 : L.c.width ≤ 4) (hil : ∀ v, 1 ≤ v → (hv : v < L.nodes.length) → (L.nodes[v]).items.length ≤ 1000000000000) :
    Calls Try.prog 17 #[.pointer (some ⟨L.tb, 0, none⟩)] w fun e w' => ∃ x l, e = .returned x ∧ NodesRep w' w.heap.size x l ∧ l.map (fun y => y.1) = pnodes L ∧ Below w.heap.size w w' := by
  have hlen := h.len
  have HT : Hid (∀ W, Below w.heap.size w W → ∀ v, 1 ≤ v → (hv : v < L.nodes.length) → Calls Try.prog 38 #[.pointer (some ⟨L.tb, 8 + v * 21, none⟩), I v, I L.c.width] W fun e w' => ∃ wv iv, e = .returned (.agg (ndCells (pnode L.c v L.nodes[v]) wv iv).toArray) ∧
      w'.ownsRow W.heap.size 3 1 wv (pnode L.c v L.nodes[v]).waiting.length ((pnode L.c v L.nodes[v]).waiting.map I) ∧ w'.ownsRow W.heap.size 3 1 iv (pnode L.c v L.nodes[v]).items.length ((pnode L.c v L.nodes[v]).items.map I) ∧ Below W.heap.size W w') :=
    fun W hb v h1 hv => tell_c (h.below hb) v hv hw0 hw4 (hil v h1 hv)
  have HN : Hid (∀ W, Below w.heap.size w W → ∀ v, (hv : v < L.nodes.length) → W.cell? ⟨L.tb, 8 + v * 21, none⟩ = some (.bool (L.nodes[v]).there)) := fun W hb v hv => (h.below hb).ncell v hv 0 (by omega)
  have HW : Hid (∀ W, Below w.heap.size w W → W.cell? ⟨L.tb, 4, none⟩ = some (I L.c.width)) := fun W hb => (h.below hb).ccell 4 (by omega)
  obtain ⟨i65, hi65, hz650, hz651, hz652⟩ := info_parts Try.info49
  clear h hil
  go_enter Try.func17, Try.ntmps17
  go_wp2_with fail
  go_loopw [3, 4] (fun x i wr => ∃ (k : Nat) (l : List (ND × Value × Value)), 1 ≤ k ∧ k ≤ 32 ∧ i = .int .i64 k ∧ NodesRep wr w.heap.size x l ∧ l.map (fun y => y.1) = pnodesTo L k ∧ Below w.heap.size w wr) (fun _ i _ => 32 - (intOf i).toNat)
  case atStart => exact ⟨1, [], by omega, by omega, rfl, ⟨World.ownsRow_nil _ _ _ _, fun y hy => absurd hy (by simp), fun y hy => absurd hy (by simp)⟩, by simp [pnodesTo], Below.refl _ _⟩
  case round =>
    obtain ⟨k, l, hk1, hk, rfl, hrep, hl, hbr⟩ := hrel
    have HL : Hid (l.map (fun y => y.1) = pnodesTo L k) := hl
    clear hl
    obtain ⟨ao2, cp2, rfl, d4, d5, d6, _⟩ := ownsRow_cells hrep.row
    by_cases hlt : k < 32
    · have hkn : k < L.nodes.length := by omega
      have hsu := pnodesTo_succ L k hkn (by omega)
      have c0 := HN.out _ hbr k hkn
      have c4 := HW.out _ hbr
      have hct := HT.out _ hbr k hk1 hkn
      have hk32 : (k : Int) < 32 := by omega
      have ltb : L.tb < wr.heap.size := cell_lt c4
      have hll : l.length ≤ 32 := by
        have := congrArg List.length HL.out
        simp only [List.length_map] at this
        have := pnodesTo_le L k
        omega
      cases hth : (L.nodes[k]).there with
      | false =>
        rw [hth] at c0
        rw [if_pos hth, List.append_nil] at hsu
        have HE : Hid (pnodesTo L (k + 1) = pnodesTo L k) := hsu
        clear hsu hth hct
        go_wp2
        go_roundw
        case rel => exact ⟨k + 1, l, by omega, by omega, by go_num, hrep, by rw [HE.out]; exact HL.out, hbr⟩
        case measure => simp [intOf]; omega
      | true =>
        rw [hth] at c0
        rw [if_neg (by simp [hth])] at hsu
        have HE : Hid (pnodesTo L (k + 1) = pnodesTo L k ++ [pnode L.c k L.nodes[k]]) := hsu
        clear hsu hth
        have HTk := fun W hb => HT.out W hb k hk1 hkn
        replace HTk : Hid _ := HTk
        generalize pnode L.c k L.nodes[k] = d at *
        clear hct
        go_wp2_with fail
        go_region_with (first
          | (go_at_call 38; refine (HTk.out _ hbr.drew).mono ?_; rintro x w3 ⟨wv, iv, rfl, r1, r2, hb5⟩; obtain ⟨ao1, cp1, rfl, _⟩ := ownsRow_cells r1; obtain ⟨ao3, cp3, rfl, _⟩ := ownsRow_cells r2; unfold ndCells)
          | (go_at_call 38; refine (HTk.out _ (hbr.alloc hbr.size _).drew).mono ?_; rintro x w3 ⟨wv, iv, rfl, r1, r2, hb5⟩; obtain ⟨ao1, cp1, rfl, _⟩ := ownsRow_cells r1; obtain ⟨ao3, cp3, rfl, _⟩ := ownsRow_cells r2; have nz := (hb5.block wr.heap.size (by show wr.heap.size < (wr.alloc _).heap.size; simp)).trans (nb_alloc _ _ _); obtain ⟨f1, f2⟩ := nb_facts nz; unfold ndCells))
        · have hb6 : Below wr.heap.size wr w3 := ⟨hb5.os, hb5.tape, hb5.output, hb5.size, hb5.block⟩
          have hsz : w.heap.size ≤ w3.heap.size := Nat.le_trans hbr.size hb6.size
          have hrepW := (hrep.below hb6 (Nat.le_refl _)).below ((Below.refl _ w3).alloc (Nat.le_refl _) (.cells #[I d.num, I d.depth, I d.rank, .bool d.inner, .bool d.shut, I d.inside, I d.toggle, I d.width, .slice ao1 d.waiting.length cp1, I d.puts, I d.gets, .slice ao3 d.items.length cp3] 49)) (Nat.le_refl _)
          have r1' := (ownsRow_mono r1 hbr.size).alloc (.cells #[I d.num, I d.depth, I d.rank, .bool d.inner, .bool d.shut, I d.inside, I d.toggle, I d.width, .slice ao1 d.waiting.length cp1, I d.puts, I d.gets, .slice ao3 d.items.length cp3] 49)
          have r2' := (ownsRow_mono r2 hbr.size).alloc (.cells #[I d.num, I d.depth, I d.rank, .bool d.inner, .bool d.shut, I d.inside, I d.toggle, I d.width, .slice ao1 d.waiting.length cp1, I d.puts, I d.gets, .slice ao3 d.items.length cp3] 49)
          have hb7 := (hbr.trans (hb6.mono hbr.size)).alloc hsz (.cells #[I d.num, I d.depth, I d.rank, .bool d.inner, .bool d.shut, I d.inside, I d.toggle, I d.width, .slice ao1 d.waiting.length cp1, I d.puts, I d.gets, .slice ao3 d.items.length cp3] 49)
          clear hb5 hb6 r1 r2 hrep hbr c0 c4
          go_wp2_with (at_builtin; go_must (refine wpList_append_own _ rfl _ _ 40 rfl w.heap.size 49 i65 _ 12 120 Try.underlying40 hi65 hz650 hz651 hz652 rfl (by decide) _ _ _ rfl (hrepW.row.alloc _) ⟨_, 0, none⟩ 1 1 (ndCells d (.slice ao1 d.waiting.length cp1) (.slice ao3 d.items.length cp3)) rfl rfl ?c1 ?c2 ?c3 ?c4 ?c5 ?_))
          case c1 =>
            have := cells_new (w3.alloc (.cells #[I d.num, I d.depth, I d.rank, .bool d.inner, .bool d.shut, I d.inside, I d.toggle, I d.width, .slice ao1 d.waiting.length cp1, I d.puts, I d.gets, .slice ao3 d.items.length cp3] 49)) (ndCells d (.slice ao1 d.waiting.length cp1) (.slice ao3 d.items.length cp3)) 49
            simp only [World.size_alloc] at this
            exact this
          case c2 => exact nd_one _ _ _ _ _ _ _
          case c3 => unfold maxLen; omega
          case c4 => omega
          case c5 => simp; omega
          · intro x' w4 hown' hgrow _
            obtain ⟨q1, q2⟩ := snoc_nodes_end hrepW r1' r2' hb7 (by simp; omega) hown' hgrow
            clear hown' hgrow hrepW r1' r2' hb7
            go_wp2
            go_roundw
            case rel => exact ⟨k + 1, _, by omega, by omega, by go_num, q1, by rw [List.map_append, HL.out, HE.out]; rfl, q2⟩
            case measure => simp [intOf]; omega
        all_goals
          have hb6 : Below wr.heap.size wr w3 := ((Below.refl _ wr).alloc (Nat.le_refl _) _).drew.trans (hb5.mono (by show wr.heap.size ≤ (wr.alloc _).heap.size; simp))
          have hsz1 : wr.heap.size ≤ (wr.alloc (.cells #[I 0, I 0, I 0, .bool false, .bool false, I 0, I 0, I 0, .slice none 0 0, I 0, I 0, .slice none 0 0] 49)).heap.size := by simp
          have hk0 : KeepB w wr w.heap.size wr.heap.size 49 (.slice ao2 l.length cp2) l (.slice ao1 d.waiting.length cp1) d.waiting (.slice ao3 d.items.length cp3) d.items w3 :=
            ⟨⟨_, nz⟩, hrep, ownsRow_mono r1 (Nat.le_trans hbr.size hsz1), ownsRow_mono r2 (Nat.le_trans hbr.size hsz1), hbr, hb6, rfl, hbr.size, by decide⟩
          have hk := ((((((((((((hk0.set 0 (I d.num)).set 1 (I d.depth)).set 2 (I d.rank)).set 3 (.bool d.inner)).set 4 (.bool d.shut)).set 5 (I d.inside)).set 6 (I d.toggle)).set 7 (I d.width)).set 8 (.slice ao1 d.waiting.length cp1)).set 9 (I d.puts)).set 10 (I d.gets)).set 11 (.slice ao3 d.items.length cp3))
          replace hk : Hid _ := hk
          clear hk0 hb5 hb6 r1 r2 hrep hbr c0 c4 nz hsz1
          go_wp2_with (at_builtin; go_must (refine wpList_append_own _ rfl _ _ 40 rfl w.heap.size 49 i65 _ 12 120 Try.underlying40 hi65 hz650 hz651 hz652 rfl (by decide) _ _ _ rfl (hk.out.nodes.row.alloc _) ⟨_, 0, none⟩ 1 1 (ndCells d (.slice ao1 d.waiting.length cp1) (.slice ao3 d.items.length cp3)) rfl rfl ?c1 ?c2 ?c3 ?c4 ?c5 ?_))
          case c1 =>
            refine cells_new_at _ _ _ _ ?_
            simp [World.setCell]
          case c2 => exact nd_one _ _ _ _ _ _ _
          case c3 => unfold maxLen; omega
          case c4 => omega
          case c5 => rw [World.size_alloc]; exact Nat.le_succ_of_le hk.out.size
          · intro x' w4 hown' hgrow _
            obtain ⟨q1, q2⟩ := snoc_nodes_end hk.out.nodes hk.out.r1 hk.out.r2 hk.out.all hk.out.size hown' hgrow
            clear hown' hgrow hk
            go_wp2
            go_roundw
            case rel => exact ⟨k + 1, _, by omega, by omega, by go_num, q1, by rw [List.map_append, HL.out, HE.out]; rfl, q2⟩
            case measure => simp [intOf]; omega
    · have e : k = 32 := by omega
      subst e
      go_wp2
      go_ret
      exact ⟨_, l, rfl, hrep, HL.out, hbr⟩

end Go.Proofs.Ytjnmpejcegmkhaa
