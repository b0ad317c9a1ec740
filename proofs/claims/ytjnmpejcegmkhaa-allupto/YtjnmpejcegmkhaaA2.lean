/- What Nodes hands out lies in lists of its own, no two of them in one block. No statement of the seat is proved here. What a script keeps of the lists that came out: each is written full by its owner with a mark of its own. No statement of the seat is proved here. -/
import Derived.Test.YtjnmpejcegmkhaaProgA
import Derived.Maps.AppendAt
namespace Go.Proofs.Ytjnmpejcegmkhaa
open Go.RowKit
variable {Fr : Nat → Prop}

/-- Two lists that lie in different blocks. -/
def Apt (x y : Value) : Prop := ∀ g, x.ownBlock = some g → y.ownBlock ≠ some g
/-- The lists of what was handed out, in their order. -/
def lsOf (l : List (ND × Value × Value)) : List Value := l.flatMap fun y => [y.2.1, y.2.2]

theorem lsOf_append (l m : List (ND × Value × Value)) : lsOf (l ++ m) = lsOf l ++ lsOf m := by simp [lsOf]
theorem NodesRep.lists {w : World} {b : Nat} {x : Value} {l : List (ND × Value × Value)} (h : NodesRep w b x l) (v : Value) (hv : v ∈ lsOf l) : ∃ n xs, w.ownsRow b 3 1 v n xs := by
  simp only [lsOf, List.mem_flatMap] at hv
  obtain ⟨y, hy, hv⟩ := hv
  simp at hv
  rcases hv with rfl | rfl
  · exact ⟨_, _, h.waiting y hy⟩
  · exact ⟨_, _, h.items y hy⟩

theorem lists_snoc {wr w3 : World} {b b1 n1 n2 : Nat} {x wv iv : Value} {l : List (ND × Value × Value)} {x1 x2 : List Value} (hap : (lsOf l).Pairwise Apt) (hrep : NodesRep wr b x l)
    (r1 : w3.ownsRow b1 3 1 wv n1 x1) (r2 : w3.ownsRow b1 3 1 iv n2 x2) (hb : wr.heap.size ≤ b1) (hnl : wv = .slice none 0 0 ∨ iv = .slice none 0 0) (d : ND) : (lsOf (l ++ [(d, wv, iv)])).Pairwise Apt := by
  rw [lsOf_append, List.pairwise_append]
  refine ⟨hap, ?_, ?_⟩
  · simp only [lsOf, List.flatMap_cons, List.flatMap_nil, List.append_nil]
    refine List.Pairwise.cons ?_ (List.Pairwise.cons (by simp) List.Pairwise.nil)
    intro y hy g hg
    simp at hy; subst hy
    rcases hnl with rfl | rfl
    · simp [Value.ownBlock] at hg
    · simp [Value.ownBlock]
  · intro p hp q hq g hg hg2
    obtain ⟨n, xs, ho⟩ := hrep.lists p hp
    have h1 := (ho.lt g hg).2
    simp [lsOf] at hq
    rcases hq with rfl | rfl
    · have h2 := (r1.lt g hg2).1
      omega
    · have h2 := (r2.lt g hg2).1
      omega

set_option maxHeartbeats 4000000 in
theorem tell_c2 {w : World} {B : Nat} {L : PLay} (h : PRep w B L) (v : Nat) (hv : v < L.nodes.length) (hw0 : 0 ≤ L.c.width) (hw4 : L.c.width ≤ 4) (hil : (L.nodes[v]).items.length ≤ 1000000000000) :
    Calls Try.prog 38 #[.pointer (some ⟨L.tb, 8 + v * 21, none⟩), I v, I L.c.width] w fun e w' => ∃ wv iv, e = .returned (.agg (ndCells (pnode L.c v L.nodes[v]) wv iv).toArray) ∧
      w'.ownsRow w.heap.size 3 1 wv (pnode L.c v L.nodes[v]).waiting.length ((pnode L.c v L.nodes[v]).waiting.map I) ∧ w'.ownsRow w.heap.size 3 1 iv (pnode L.c v L.nodes[v]).items.length ((pnode L.c v L.nodes[v]).items.map I) ∧ Below w.heap.size w w' ∧ (wv = .slice none 0 0 ∨ iv = .slice none 0 0) := by
  have hlen := h.len
  have hn := fun W (hb : Below w.heap.size w W) j hj => (h.below hb).ncell v hv j hj
  obtain ⟨WD, hWD⟩ := Int.eq_ofNat_of_zero_le hw0
  have hi := fun W (hb : Below w.heap.size w W) => values_c W B L.tb (8 + v * 21) (L.nodes[v]).iv (L.nodes[v]).items ((h.below hb).ncell v hv 20 (by omega)) ((h.below hb).items v hv) hil
  have hwt := fun W (hb : Below w.heap.size w W) => waiting_c W L.tb (8 + v * 21) (L.nodes[v]).st (L.nodes[v]).wh WD (by omega) (fun k hk => by
    have : k = 0 ∨ k = 1 ∨ k = 2 ∨ k = 3 := by omega
    rcases this with rfl | rfl | rfl | rfl
    · exact ⟨(h.below hb).ncell v hv 6 (by omega), (h.below hb).ncell v hv 7 (by omega)⟩
    · exact ⟨(h.below hb).ncell v hv 9 (by omega), (h.below hb).ncell v hv 10 (by omega)⟩
    · exact ⟨(h.below hb).ncell v hv 12 (by omega), (h.below hb).ncell v hv 13 (by omega)⟩
    · exact ⟨(h.below hb).ncell v hv 15 (by omega), (h.below hb).ncell v hv 16 (by omega)⟩)
  have hpl := fun W => place_c v (by omega) W
  have ht := h.size
  have hpn : pnode L.c v L.nodes[v] = if (L.nodes[v]).inner then ⟨v, Nat.log2 v, rank v, true, (L.nodes[v]).shut, (L.nodes[v]).inside, (L.nodes[v]).toggle, (L.nodes[v]).width, whoTo (L.nodes[v]).st (L.nodes[v]).wh WD, 0, 0, []⟩
      else ⟨v, Nat.log2 v, rank v, false, (L.nodes[v]).shut, (L.nodes[v]).inside, 0, 0, [], (L.nodes[v]).puts, (L.nodes[v]).gets, pvals (L.nodes[v]).items⟩ := by
    rw [pnode, hWD]; rfl
  rw [hpn, hWD]
  clear hpn hWD hw0 hw4 hil hlen h
  generalize L.nodes[v] = n at *
  generalize L.tb = tb at *
  replace hn : Hid _ := hn
  replace hi : Hid _ := hi
  replace hwt : Hid _ := hwt
  replace hpl : Hid _ := hpl
  generalize pvals n.items = vl at *
  generalize Nat.log2 v = dep at *
  generalize rank v = rk at *
  obtain ⟨there, inner, shut, inside, toggle, width, s0, s1, s2, s3, puts, gets, iv, items⟩ := n
  simp only at *
  cases inner
  all_goals simp only [if_true, Bool.false_eq_true, if_false]
  all_goals
    go_enter Try.func38, Try.ntmps38
    go_wp2_with fail
    refine (hpl.out _).mono ?_
    rintro e w1 ⟨rfl, rfl⟩
    have hb1 := (Below.refl w.heap.size w).alloc (Nat.le_refl _) (.cells #[I 0, I 0, I 0, .bool false, .bool false, I 0, I 0, I 0, .slice none 0 0, I 0, I 0, .slice none 0 0] 49)
    have c1 := hn.out w (Below.refl _ _) 1 (by omega)
    have c2 := hn.out w (Below.refl _ _) 2 (by omega)
    have c3 := hn.out w (Below.refl _ _) 3 (by omega)
    have c4 := hn.out w (Below.refl _ _) 4 (by omega)
    have c5 := hn.out w (Below.refl _ _) 5 (by omega)
    have c14 := hn.out w (Below.refl _ _) 18 (by omega)
    have c15 := hn.out w (Below.refl _ _) 19 (by omega)
    simp only [pnCells, List.getElem?_cons_succ, List.getElem?_cons_zero] at c1 c2 c3 c4 c5 c14 c15
    go_wp2_with fail
    go_region
    go_wp2_with fail
  · have hb2 : Below w.heap.size w ((w.alloc (.cells #[I 0, I 0, I 0, .bool false, .bool false, I 0, I 0, I 0, .slice none 0 0, I 0, I 0, .slice none 0 0] 49)).alloc (.cells #[I v, I dep, I rk, .bool false, .bool shut, I inside, I 0, I 0, .slice none 0 0, I puts, I gets, .slice none 0 0] 49)).drew := (((Below.refl _ _).alloc (Nat.le_refl _) _).alloc (by simp) _).drew
    refine (hi.out _ hb2).mono ?_
    rintro e w2 ⟨x, rfl, hown, hb3⟩
    have hb4 := hb2.trans (hb3.mono hb2.size)
    have na : w2.heap[w.heap.size]? = some (.cells #[I 0, I 0, I 0, .bool false, .bool false, I 0, I 0, I 0, .slice none 0 0, I 0, I 0, .slice none 0 0] 49 (0, 0)) :=
      (hb3.block _ (by show w.heap.size < ((w.alloc _).alloc _).heap.size; simp; omega)).trans (by show ((w.alloc _).alloc _).heap[w.heap.size]? = _; rw [Below.heap_alloc _ _ _ (by simp)]; exact nb_alloc _ _ _)
    have nc : w2.heap[w.heap.size + 1]? = some (.cells #[I v, I dep, I rk, .bool false, .bool shut, I inside, I 0, I 0, .slice none 0 0, I puts, I gets, .slice none 0 0] 49 (0, 0)) :=
      (hb3.block _ (by show w.heap.size + 1 < ((w.alloc _).alloc _).heap.size; simp)).trans (nb_alloc2 _ _ _ _)
    have hown2 := ownsRow_mono hown hb2.size
    obtain ⟨ao, cp, rfl, _⟩ := ownsRow_cells hown
    clear hb2 hb3 hown c1 c2 c3 c4 c5 c14 c15 hn hi hwt hpl
    have hs1 := (Array.getElem?_eq_some_iff.1 na).1
    have nd := nb_set nc 11 (.slice ao vl.length cp)
    have nae : (w2.setCell ⟨w.heap.size + 1, 11, none⟩ (.slice ao vl.length cp)).heap[w.heap.size]? = _ := (Below.heap_setCell _ _ _ _ (by simp)).trans na
    have hb5 := hb4.setCell (p := ⟨w.heap.size + 1, 11, none⟩) (by simp) (.slice ao vl.length cp)
    have hown3 := ownsRow_setCell_type hown2 nc (by decide) 11 (.slice ao vl.length cp)
    obtain ⟨f1, f2⟩ := nb_facts na
    obtain ⟨g1, g2⟩ := nb_facts nc
    simp only [Array.setIfInBounds] at nd
    have ND : Hid _ := nd
    have NA : Hid _ := nae
    have HO : Hid _ := hown3
    have HB : Hid _ := hb5
    clear nd nae hown3 hb5 hb4 hown2
    have hk : KeepRows w w.heap.size w.heap.size 49 (.slice none 0 0) [] (.slice ao vl.length cp) vl (w2.setCell ⟨w.heap.size + 1, 11, none⟩ (.slice ao vl.length cp)) :=
      ⟨⟨_, NA.out⟩, World.ownsRow_nil _ _ _ _, HO.out, HB.out, Nat.le_refl _, by decide⟩
    replace hk : Hid _ := hk
    go_wp2
    refine bodyPost_ret (v := .agg (ndCells ⟨v, dep, rk, false, shut, inside, 0, 0, [], puts, gets, vl⟩ (.slice none 0 0) (.slice ao vl.length cp)).toArray) (by simp [results, Try.results38, go_sem, ndCells, f1]) rfl ⟨_, _, rfl, ?_⟩
    have hk2 := ((((((((((((hk.out.set 0 (I v)).set 1 (I dep)).set 2 (I rk)).set 3 (.bool false)).set 4 (.bool shut)).set 5 (I inside)).set 6 (I 0)).set 7 (I 0)).set 8 (.slice none 0 0)).set 9 (I puts)).set 10 (I gets)).set 11 (.slice ao vl.length cp))
    exact ⟨hk2.r1, hk2.r2, hk2.below, Or.inl rfl⟩
  · have hb2 : Below w.heap.size w ((w.alloc (.cells #[I 0, I 0, I 0, .bool false, .bool false, I 0, I 0, I 0, .slice none 0 0, I 0, I 0, .slice none 0 0] 49)).alloc (.cells #[I v, I dep, I rk, .bool true, .bool shut, I inside, I toggle, I width, .slice none 0 0, I 0, I 0, .slice none 0 0] 49)).drew := (((Below.refl _ _).alloc (Nat.le_refl _) _).alloc (by simp) _).drew
    refine (hwt.out _ hb2).mono ?_
    rintro e w2 ⟨x, rfl, hown, hb3⟩
    have hb4 := hb2.trans (hb3.mono hb2.size)
    have na : w2.heap[w.heap.size]? = some (.cells #[I 0, I 0, I 0, .bool false, .bool false, I 0, I 0, I 0, .slice none 0 0, I 0, I 0, .slice none 0 0] 49 (0, 0)) :=
      (hb3.block _ (by show w.heap.size < ((w.alloc _).alloc _).heap.size; simp; omega)).trans (by show ((w.alloc _).alloc _).heap[w.heap.size]? = _; rw [Below.heap_alloc _ _ _ (by simp)]; exact nb_alloc _ _ _)
    have nc : w2.heap[w.heap.size + 1]? = some (.cells #[I v, I dep, I rk, .bool true, .bool shut, I inside, I toggle, I width, .slice none 0 0, I 0, I 0, .slice none 0 0] 49 (0, 0)) :=
      (hb3.block _ (by show w.heap.size + 1 < ((w.alloc _).alloc _).heap.size; simp)).trans (nb_alloc2 _ _ _ _)
    have hown2 := ownsRow_mono hown hb2.size
    obtain ⟨ao, cp, rfl, _⟩ := ownsRow_cells hown
    clear hb2 hb3 hown c1 c2 c3 c4 c5 c14 c15 hn hi hwt hpl
    have hs1 := (Array.getElem?_eq_some_iff.1 na).1
    have nd := nb_set nc 8 (.slice ao WD cp)
    have nae : (w2.setCell ⟨w.heap.size + 1, 8, none⟩ (.slice ao WD cp)).heap[w.heap.size]? = _ := (Below.heap_setCell _ _ _ _ (by simp)).trans na
    have hb5 := hb4.setCell (p := ⟨w.heap.size + 1, 8, none⟩) (by simp) (.slice ao WD cp)
    have hown3 := ownsRow_setCell_type hown2 nc (by decide) 8 (.slice ao WD cp)
    obtain ⟨f1, f2⟩ := nb_facts na
    obtain ⟨g1, g2⟩ := nb_facts nc
    simp only [Array.setIfInBounds] at nd
    have ND : Hid _ := nd
    have NA : Hid _ := nae
    have HO : Hid _ := hown3
    have HB : Hid _ := hb5
    clear nd nae hown3 hb5 hb4 hown2
    have hk : KeepRows w w.heap.size w.heap.size 49 (.slice ao WD cp) (whoTo (PN.st ⟨there, true, shut, inside, toggle, width, s0, s1, s2, s3, puts, gets, iv, items⟩) (PN.wh ⟨there, true, shut, inside, toggle, width, s0, s1, s2, s3, puts, gets, iv, items⟩) WD) (.slice none 0 0) [] (w2.setCell ⟨w.heap.size + 1, 8, none⟩ (.slice ao WD cp)) :=
      ⟨⟨_, NA.out⟩, by rw [whoTo_length]; exact HO.out, World.ownsRow_nil _ _ _ _, HB.out, Nat.le_refl _, by decide⟩
    replace hk : Hid _ := hk
    go_wp2
    refine bodyPost_ret (v := .agg (ndCells ⟨v, dep, rk, true, shut, inside, toggle, width, [], 0, 0, []⟩ (.slice ao WD cp) (.slice none 0 0)).toArray) (by simp [results, Try.results38, go_sem, ndCells, f1]) rfl ⟨_, _, rfl, ?_⟩
    have hk2 := ((((((((((((hk.out.set 0 (I v)).set 1 (I dep)).set 2 (I rk)).set 3 (.bool true)).set 4 (.bool shut)).set 5 (I inside)).set 6 (I toggle)).set 7 (I width)).set 8 (.slice ao WD cp)).set 9 (I 0)).set 10 (I 0)).set 11 (.slice none 0 0))
    exact ⟨hk2.r1, hk2.r2, hk2.below, Or.inr rfl⟩

set_option maxHeartbeats 4000000 in
set_option maxRecDepth 100000 in
theorem pnodes_c2 {w : World} {B : Nat} {L : PLay} (h : PRep w B L) (hw0 : 0 ≤ L.c.width) (hw4 : L.c.width ≤ 4) (hil : ∀ v, 1 ≤ v → (hv : v < L.nodes.length) → (L.nodes[v]).items.length ≤ 1000000000000) :
    Calls Try.prog 17 #[.pointer (some ⟨L.tb, 0, none⟩)] w fun e w' => ∃ x l, e = .returned x ∧ NodesRep w' w.heap.size x l ∧ l.map (fun y => y.1) = pnodes L ∧ Below w.heap.size w w' ∧ (lsOf l).Pairwise Apt := by
  have hlen := h.len
  have HT : Hid (∀ W, Below w.heap.size w W → ∀ v, 1 ≤ v → (hv : v < L.nodes.length) → Calls Try.prog 38 #[.pointer (some ⟨L.tb, 8 + v * 21, none⟩), I v, I L.c.width] W fun e w' => ∃ wv iv, e = .returned (.agg (ndCells (pnode L.c v L.nodes[v]) wv iv).toArray) ∧
      w'.ownsRow W.heap.size 3 1 wv (pnode L.c v L.nodes[v]).waiting.length ((pnode L.c v L.nodes[v]).waiting.map I) ∧ w'.ownsRow W.heap.size 3 1 iv (pnode L.c v L.nodes[v]).items.length ((pnode L.c v L.nodes[v]).items.map I) ∧ Below W.heap.size W w' ∧ (wv = .slice none 0 0 ∨ iv = .slice none 0 0)) :=
    fun W hb v h1 hv => tell_c2 (h.below hb) v hv hw0 hw4 (hil v h1 hv)
  have HN : Hid (∀ W, Below w.heap.size w W → ∀ v, (hv : v < L.nodes.length) → W.cell? ⟨L.tb, 8 + v * 21, none⟩ = some (.bool (L.nodes[v]).there)) := fun W hb v hv => (h.below hb).ncell v hv 0 (by omega)
  have HW : Hid (∀ W, Below w.heap.size w W → W.cell? ⟨L.tb, 4, none⟩ = some (I L.c.width)) := fun W hb => (h.below hb).ccell 4 (by omega)
  obtain ⟨i65, hi65, hz650, hz651, hz652⟩ := info_parts Try.info49
  clear h hil
  go_enter Try.func17, Try.ntmps17
  go_wp2_with fail
  go_loopw [3, 4] (fun x i wr => ∃ (k : Nat) (l : List (ND × Value × Value)), 1 ≤ k ∧ k ≤ 32 ∧ i = .int .i64 k ∧ NodesRep wr w.heap.size x l ∧ l.map (fun y => y.1) = pnodesTo L k ∧ Below w.heap.size w wr ∧ (lsOf l).Pairwise Apt) (fun _ i _ => 32 - (intOf i).toNat)
  case atStart => exact ⟨1, [], by omega, by omega, rfl, ⟨World.ownsRow_nil _ _ _ _, fun y hy => absurd hy (by simp), fun y hy => absurd hy (by simp)⟩, by simp [pnodesTo], Below.refl _ _, List.Pairwise.nil⟩
  case round =>
    obtain ⟨k, l, hk1, hk, rfl, hrep, hl, hbr, hap⟩ := hrel
    replace hap : Hid _ := hap
    have HL : Hid (l.map (fun y => y.1) = pnodesTo L k) := hl
    clear hl
    obtain ⟨ao2, cp2, rfl, d4, d5, d6, _⟩ := ownsRow_cells hrep.row
    by_cases hlt : k < 32
    · have hkn : k < L.nodes.length := by omega
      have hsu := pnodesTo_succ L k hkn (by omega)
      have c0 := HN.out _ hbr k hkn
      have c4 := HW.out _ hbr
      have hct := HT.out _ hbr k hk1 hkn
      have hk32 : (k : Int) < 32 := by omega
      have ltb : L.tb < wr.heap.size := cell_lt c4
      have hll : l.length ≤ 32 := by
        have := congrArg List.length HL.out
        simp only [List.length_map] at this
        have := pnodesTo_le L k
        omega
      cases hth : (L.nodes[k]).there with
      | false =>
        rw [hth] at c0
        rw [if_pos hth, List.append_nil] at hsu
        have HE : Hid (pnodesTo L (k + 1) = pnodesTo L k) := hsu
        clear hsu hth hct
        go_wp2
        go_roundw
        case rel => exact ⟨k + 1, l, by omega, by omega, by go_num, hrep, by rw [HE.out]; exact HL.out, hbr, hap.out⟩
        case measure => simp [intOf]; omega
      | true =>
        rw [hth] at c0
        rw [if_neg (by simp [hth])] at hsu
        have HE : Hid (pnodesTo L (k + 1) = pnodesTo L k ++ [pnode L.c k L.nodes[k]]) := hsu
        clear hsu hth
        have HTk := fun W hb => HT.out W hb k hk1 hkn
        replace HTk : Hid _ := HTk
        generalize pnode L.c k L.nodes[k] = d at *
        clear hct
        go_wp2_with fail
        go_region_with (first
          | (go_at_call 38; refine (HTk.out _ hbr.drew).mono ?_; rintro x w3 ⟨wv, iv, rfl, r1, r2, hb5, hnl⟩; replace hnl : Hid _ := hnl; obtain ⟨ao1, cp1, rfl, _⟩ := ownsRow_cells r1; obtain ⟨ao3, cp3, rfl, _⟩ := ownsRow_cells r2; unfold ndCells)
          | (go_at_call 38; refine (HTk.out _ (hbr.alloc hbr.size _).drew).mono ?_; rintro x w3 ⟨wv, iv, rfl, r1, r2, hb5, hnl⟩; replace hnl : Hid _ := hnl; obtain ⟨ao1, cp1, rfl, _⟩ := ownsRow_cells r1; obtain ⟨ao3, cp3, rfl, _⟩ := ownsRow_cells r2; have nz := (hb5.block wr.heap.size (by show wr.heap.size < (wr.alloc _).heap.size; simp)).trans (nb_alloc _ _ _); obtain ⟨f1, f2⟩ := nb_facts nz; unfold ndCells))
        · have hq : Hid _ := lists_snoc hap.out hrep r1 r2 (Nat.le_refl _) hnl.out d
          have hb6 : Below wr.heap.size wr w3 := ⟨hb5.os, hb5.tape, hb5.output, hb5.size, hb5.block⟩
          have hsz : w.heap.size ≤ w3.heap.size := Nat.le_trans hbr.size hb6.size
          have hrepW := (hrep.below hb6 (Nat.le_refl _)).below ((Below.refl _ w3).alloc (Nat.le_refl _) (.cells #[I d.num, I d.depth, I d.rank, .bool d.inner, .bool d.shut, I d.inside, I d.toggle, I d.width, .slice ao1 d.waiting.length cp1, I d.puts, I d.gets, .slice ao3 d.items.length cp3] 49)) (Nat.le_refl _)
          have r1' := (ownsRow_mono r1 hbr.size).alloc (.cells #[I d.num, I d.depth, I d.rank, .bool d.inner, .bool d.shut, I d.inside, I d.toggle, I d.width, .slice ao1 d.waiting.length cp1, I d.puts, I d.gets, .slice ao3 d.items.length cp3] 49)
          have r2' := (ownsRow_mono r2 hbr.size).alloc (.cells #[I d.num, I d.depth, I d.rank, .bool d.inner, .bool d.shut, I d.inside, I d.toggle, I d.width, .slice ao1 d.waiting.length cp1, I d.puts, I d.gets, .slice ao3 d.items.length cp3] 49)
          have hb7 := (hbr.trans (hb6.mono hbr.size)).alloc hsz (.cells #[I d.num, I d.depth, I d.rank, .bool d.inner, .bool d.shut, I d.inside, I d.toggle, I d.width, .slice ao1 d.waiting.length cp1, I d.puts, I d.gets, .slice ao3 d.items.length cp3] 49)
          clear hb5 hb6 r1 r2 hrep hbr c0 c4
          go_wp2_with (at_builtin; go_must (refine wpList_append_own _ rfl _ _ 40 rfl w.heap.size 49 i65 _ 12 120 Try.underlying40 hi65 hz650 hz651 hz652 rfl (by decide) _ _ _ rfl (hrepW.row.alloc _) ⟨_, 0, none⟩ 1 1 (ndCells d (.slice ao1 d.waiting.length cp1) (.slice ao3 d.items.length cp3)) rfl rfl ?c1 ?c2 ?c3 ?c4 ?c5 ?_))
          case c1 =>
            have := cells_new (w3.alloc (.cells #[I d.num, I d.depth, I d.rank, .bool d.inner, .bool d.shut, I d.inside, I d.toggle, I d.width, .slice ao1 d.waiting.length cp1, I d.puts, I d.gets, .slice ao3 d.items.length cp3] 49)) (ndCells d (.slice ao1 d.waiting.length cp1) (.slice ao3 d.items.length cp3)) 49
            simp only [World.size_alloc] at this
            exact this
          case c2 => exact nd_one _ _ _ _ _ _ _
          case c3 => unfold maxLen; omega
          case c4 => omega
          case c5 => simp; omega
          · intro x' w4 hown' hgrow _
            obtain ⟨q1, q2⟩ := snoc_nodes_end hrepW r1' r2' hb7 (by simp; omega) hown' hgrow
            clear hown' hgrow hrepW r1' r2' hb7
            go_wp2
            go_roundw
            case rel => exact ⟨k + 1, _, by omega, by omega, by go_num, q1, by rw [List.map_append, HL.out, HE.out]; rfl, q2, hq.out⟩
            case measure => simp [intOf]; omega
        all_goals
          have hq : Hid _ := lists_snoc hap.out hrep r1 r2 (by show wr.heap.size ≤ (wr.alloc _).heap.size; simp) hnl.out d
          have hb6 : Below wr.heap.size wr w3 := ((Below.refl _ wr).alloc (Nat.le_refl _) _).drew.trans (hb5.mono (by show wr.heap.size ≤ (wr.alloc _).heap.size; simp))
          have hsz1 : wr.heap.size ≤ (wr.alloc (.cells #[I 0, I 0, I 0, .bool false, .bool false, I 0, I 0, I 0, .slice none 0 0, I 0, I 0, .slice none 0 0] 49)).heap.size := by simp
          have hk0 : KeepB w wr w.heap.size wr.heap.size 49 (.slice ao2 l.length cp2) l (.slice ao1 d.waiting.length cp1) d.waiting (.slice ao3 d.items.length cp3) d.items w3 :=
            ⟨⟨_, nz⟩, hrep, ownsRow_mono r1 (Nat.le_trans hbr.size hsz1), ownsRow_mono r2 (Nat.le_trans hbr.size hsz1), hbr, hb6, rfl, hbr.size, by decide⟩
          have hk := ((((((((((((hk0.set 0 (I d.num)).set 1 (I d.depth)).set 2 (I d.rank)).set 3 (.bool d.inner)).set 4 (.bool d.shut)).set 5 (I d.inside)).set 6 (I d.toggle)).set 7 (I d.width)).set 8 (.slice ao1 d.waiting.length cp1)).set 9 (I d.puts)).set 10 (I d.gets)).set 11 (.slice ao3 d.items.length cp3))
          replace hk : Hid _ := hk
          clear hk0 hb5 hb6 r1 r2 hrep hbr c0 c4 nz hsz1
          go_wp2_with (at_builtin; go_must (refine wpList_append_own _ rfl _ _ 40 rfl w.heap.size 49 i65 _ 12 120 Try.underlying40 hi65 hz650 hz651 hz652 rfl (by decide) _ _ _ rfl (hk.out.nodes.row.alloc _) ⟨_, 0, none⟩ 1 1 (ndCells d (.slice ao1 d.waiting.length cp1) (.slice ao3 d.items.length cp3)) rfl rfl ?c1 ?c2 ?c3 ?c4 ?c5 ?_))
          case c1 =>
            refine cells_new_at _ _ _ _ ?_
            simp [World.setCell]
          case c2 => exact nd_one _ _ _ _ _ _ _
          case c3 => unfold maxLen; omega
          case c4 => omega
          case c5 => rw [World.size_alloc]; exact Nat.le_succ_of_le hk.out.size
          · intro x' w4 hown' hgrow _
            obtain ⟨q1, q2⟩ := snoc_nodes_end hk.out.nodes hk.out.r1 hk.out.r2 hk.out.all hk.out.size hown' hgrow
            clear hown' hgrow hk
            go_wp2
            go_roundw
            case rel => exact ⟨k + 1, _, by omega, by omega, by go_num, q1, by rw [List.map_append, HL.out, HE.out]; rfl, q2, hq.out⟩
            case measure => simp [intOf]; omega
    · have e : k = 32 := by omega
      subst e
      go_wp2
      go_ret
      exact ⟨_, l, rfl, hrep, HL.out, hbr, hap.out⟩

end Go.Proofs.Ytjnmpejcegmkhaa

namespace Go.Proofs.Ytjnmpejcegmkhaa
open Go.RowKit
variable {Fr : Nat → Prop}

theorem ownsRow_same {w w' : World} {b : Nat} {e : TypeId} {size : Nat} {v : Value} {n : Nat} {xs : List Value} (h : w.ownsRow b e size v n xs) (hb : ∀ g, v.ownBlock = some g → w'.heap[g]? = w.heap[g]?) : w'.ownsRow b e size v n xs := by
  obtain ⟨h1, h2⟩ := h
  refine ⟨h1, ?_⟩
  rcases h2 with h2 | ⟨g, cap, cur, hv, hg, hh, r⟩
  · exact Or.inl h2
  · exact Or.inr ⟨g, cap, cur, hv, hg, (hb g (by rw [hv]; rfl)).trans hh, r⟩

/-- Only the blocks of S, and new ones, are changed. -/
structure ChgS (S : Nat → Prop) (w w' : World) : Prop where
  os : w'.os = w.os
  tape : w'.tape = w.tape
  output : w'.output = w.output
  size : w.heap.size ≤ w'.heap.size
  block : ∀ k, k < w.heap.size → ¬ S k → w'.heap[k]? = w.heap[k]?
theorem ChgS.refl (S : Nat → Prop) (w : World) : ChgS S w w := ⟨rfl, rfl, rfl, Nat.le_refl _, fun _ _ _ => rfl⟩
theorem ChgS.setCell {S : Nat → Prop} {a w : World} (h : ChgS S a w) {p : Addr} (hp : S p.block ∨ a.heap.size ≤ p.block) (u : Value) : ChgS S a (w.setCell p u) :=
  ⟨h.os, h.tape, h.output, by simpa [World.setCell] using h.size, fun k hk hs => (Below.heap_setCell w p u k (by
    intro e; subst e; rcases hp with hp | hp
    · exact hs hp
    · omega)).trans (h.block k hk hs)⟩
theorem ChgS.grown {S : Nat → Prop} {a w w' : World} (h : ChgS S a w) {row : Option Nat} (hg : w.grownBy w' row) (hr : ∀ k, row = some k → S k ∨ a.heap.size ≤ k) : ChgS S a w' :=
  ⟨hg.os.trans h.os, hg.tape.trans h.tape, hg.output.trans h.output, Nat.le_trans h.size hg.size, fun k hk hs => (hg.block k (Nat.lt_of_lt_of_le hk h.size) (by
    intro e
    rcases hr k e.symm with hp | hp
    · exact hs hp
    · omega)).trans (h.block k hk hs)⟩
theorem ChgS.trans' {S S2 : Nat → Prop} {w w1 w2 : World} (h : ChgS S w w1) (h2 : ChgS S2 w1 w2) (hS : ∀ k, S2 k → S k ∨ w.heap.size ≤ k) : ChgS S w w2 :=
  ⟨h2.os.trans h.os, h2.tape.trans h.tape, h2.output.trans h.output, Nat.le_trans h.size h2.size, fun k hk hs => (h2.block k (Nat.lt_of_lt_of_le hk h.size) fun e => by
    rcases hS k e with h3 | h3
    · exact hs h3
    · omega).trans (h.block k hk hs)⟩

theorem ChgS.row {S : Nat → Prop} {a w : World} (h : ChgS S a w) {b : Nat} {e : TypeId} {size : Nat} {v : Value} {n : Nat} {xs : List Value} (hr : a.ownsRow b e size v n xs) (hs : ∀ g, v.ownBlock = some g → ¬ S g) : w.ownsRow b e size v n xs :=
  ownsRow_same hr fun g hg => h.block g (hr.lt g hg).2 (hs g hg)

/-- A list that its owner has written full with m. -/
def FullL (w : World) (B : Nat) (x : Value) (m : Int) : Prop := ∃ ao n, x = .slice ao n n ∧ w.ownsRow B 3 1 x n (List.replicate n (I m))
/-- A node of which only the number is set. -/
def bareN (m : Int) : List Value := ndCells ⟨m, 0, 0, false, false, 0, 0, 0, [], 0, 0, []⟩ (.slice none 0 0) (.slice none 0 0)
/-- An outer list that its owner has written full with nodes of the number m. -/
def FullN (w : World) (B : Nat) (x : Value) (m : Int) : Prop := ∃ ao n, x = .slice ao n n ∧ 1 ≤ n ∧ w.ownsRow B 49 12 x n ((List.replicate n m).flatMap bareN)

/-- What is kept: the three lists of lists as values, the last mark, the lists and their marks. -/
structure Kp where
  xl : Value
  xm : Value
  xo : Value
  mkv : Int
  xs : List Value
  ms : List Int
  os : List Value
  om : List Int

structure AKm (w : World) (B lb : Nat) (pt rt : Value) (K : Kp) (ls : List Value) : Prop where
  law : w.heap[lb]? = some (.cells #[pt, rt, K.xl, K.xm, K.xo, I K.mkv] 103 (0, 0))
  hlb : B ≤ lb
  lrow : w.ownsRow B 27 1 K.xl ls.length ls
  mrow : w.ownsRow B 3 1 K.xm K.xs.length (K.ms.map I)
  len : K.ms.length = K.xs.length
  full : ∀ i, (h : i < K.xs.length) → (h' : i < K.ms.length) → FullL w B K.xs[i] K.ms[i]
  apart : ∀ x ∈ K.xs, Apt x K.xm
  orow : w.ownsRow B 40 1 K.xo K.os.length K.os
  olen : K.om.length = K.os.length
  ofull : ∀ i, (h : i < K.os.length) → (h' : i < K.om.length) → FullN w B K.os[i] K.om[i]
  ole : ∀ m ∈ K.om, m ≤ -1000
abbrev AK (w : World) (B lb : Nat) (pt rt : Value) (K : Kp) : Prop := AKm w B lb pt rt K K.xs

theorem FullL.same {w w' : World} {B : Nat} {x : Value} {m : Int} (h : FullL w B x m) (hb : ∀ g, x.ownBlock = some g → w'.heap[g]? = w.heap[g]?) : FullL w' B x m := by
  obtain ⟨ao, n, e, ho⟩ := h
  exact ⟨ao, n, e, ownsRow_same ho hb⟩
theorem FullN.same {w w' : World} {B : Nat} {x : Value} {m : Int} (h : FullN w B x m) (hb : ∀ g, x.ownBlock = some g → w'.heap[g]? = w.heap[g]?) : FullN w' B x m := by
  obtain ⟨ao, n, e, h1, ho⟩ := h
  exact ⟨ao, n, e, h1, ownsRow_same ho hb⟩
theorem FullL.lt {w : World} {B : Nat} {x : Value} {m : Int} (h : FullL w B x m) {g : Nat} (hg : x.ownBlock = some g) : B ≤ g ∧ g < w.heap.size := by
  obtain ⟨ao, n, e, ho⟩ := h
  exact ho.lt g hg
theorem FullL.typ {w : World} {B : Nat} {x : Value} {m : Int} (h : FullL w B x m) {g : Nat} (hg : x.ownBlock = some g) : ∃ cur, w.heap[g]? = some (.cells cur 3 (0, 0)) := by
  obtain ⟨ao, n, e, ho⟩ := h
  exact ownsRow_block ho hg
theorem FullN.typ {w : World} {B : Nat} {x : Value} {m : Int} (h : FullN w B x m) {g : Nat} (hg : x.ownBlock = some g) : ∃ cur, w.heap[g]? = some (.cells cur 49 (0, 0)) := by
  obtain ⟨ao, n, e, h1, ho⟩ := h
  exact ownsRow_block ho hg

theorem AKm.below {w w' : World} {B lb : Nat} {pt rt : Value} {K : Kp} {ls : List Value} (h : AKm w B lb pt rt K ls) (hb : Below w.heap.size w w') : AKm w' B lb pt rt K ls where
  law := by rw [hb.block _ (Array.getElem?_eq_some_iff.1 h.law).1]; exact h.law
  hlb := h.hlb
  lrow := ownsRow_below h.lrow hb (Nat.le_refl _)
  mrow := ownsRow_below h.mrow hb (Nat.le_refl _)
  len := h.len
  full := fun i h1 h2 => (h.full i h1 h2).same fun g hg => hb.block g ((h.full i h1 h2).lt hg).2
  apart := h.apart
  orow := ownsRow_below h.orow hb (Nat.le_refl _)
  olen := h.olen
  ofull := fun i h1 h2 => (h.ofull i h1 h2).same fun g hg => hb.block g (by obtain ⟨c, hc⟩ := (h.ofull i h1 h2).typ hg; exact (Array.getElem?_eq_some_iff.1 hc).1)
  ole := h.ole

theorem AKm.chg {w w' : World} {B C lb : Nat} {pt rt : Value} {K : Kp} {ls : List Value} {T : List TypeId} (h : AKm w B lb pt rt K ls) (hc : ChgT C T w w') (h1 : 103 ∉ T) (h2 : 27 ∉ T) (h3 : 3 ∉ T) (h4 : 40 ∉ T) (h5 : 49 ∉ T) : AKm w' B lb pt rt K ls where
  law := hc.at h.law h1
  hlb := h.hlb
  lrow := hc.row h.lrow h2
  mrow := hc.row h.mrow h3
  len := h.len
  full := fun i a b => (h.full i a b).same fun g hg => by
    obtain ⟨c, hh⟩ := (h.full i a b).typ hg
    rw [hc.at hh h3, hh]
  apart := h.apart
  orow := hc.row h.orow h4
  olen := h.olen
  ofull := fun i a b => (h.ofull i a b).same fun g hg => by
    obtain ⟨c, hh⟩ := (h.ofull i a b).typ hg
    rw [hc.at hh h5, hh]
  ole := h.ole

/-- A list in the midst of being written: the first k are m. -/
structure Filling (w0 w : World) (g cap : Nat) (m : Int) (k : Nat) : Prop where
  blk : ∃ cur, w.heap[g]? = some (.cells cur 3 (0, 0)) ∧ cur.size = cap ∧ ∀ j, j < k → cur[j]? = some (I m)
  os : w.os = w0.os
  tape : w.tape = w0.tape
  output : w.output = w0.output
  size : w.heap.size = w0.heap.size
  other : ∀ b, b ≠ g → w.heap[b]? = w0.heap[b]?
theorem Filling.next {w0 w : World} {g cap : Nat} {m : Int} {k : Nat} (h : Filling w0 w g cap m k) (hk : k < cap) : Filling w0 (w.setCell ⟨g, k, none⟩ (I m)) g cap m (k + 1) := by
  obtain ⟨cur, h1, h2, h3⟩ := h.blk
  refine ⟨⟨_, nb_set h1 k (I m), by simpa using h2, fun j hj => ?_⟩, h.os, h.tape, h.output, by simpa [World.setCell] using h.size, fun b hb => (Below.heap_setCell _ _ _ _ hb).trans (h.other b hb)⟩
  by_cases e : j = k
  · subst e; simp [h2, hk]
  · rw [Array.getElem?_setIfInBounds_ne (by omega)]; exact h3 j (by omega)
theorem Filling.full {w0 w : World} {g cap : Nat} {m : Int} (h : Filling w0 w g cap m cap) {B : Nat} (hB : B ≤ g) (hc : cap ≤ maxLen) : w.ownsRow B 3 1 (.slice (some ⟨g, 0, none⟩) cap cap) cap (List.replicate cap (I m)) := by
  obtain ⟨cur, h1, h2, h3⟩ := h.blk
  refine ⟨by simp, Or.inr ⟨g, cap, cur, rfl, hB, h1, Nat.le_refl _, hc, by simpa using h2, ?_⟩⟩
  apply List.ext_getElem?
  intro j
  by_cases hj : j < cap
  · rw [List.getElem?_take, if_pos (by omega), List.getElem?_replicate, if_pos hj]
    have := h3 j hj
    simpa using this
  · rw [List.getElem?_eq_none (by simp; omega), List.getElem?_eq_none (by simp; omega)]


/-- Two rows of different types lie in different blocks. -/
theorem types_apart {w : World} {b b' : Nat} {e e' : TypeId} {s s' n n' : Nat} {v v' : Value} {xs xs' : List Value} (h : w.ownsRow b e s v n xs) (h' : w.ownsRow b' e' s' v' n' xs') (hne : e ≠ e') {g : Nat} (hg : v.ownBlock = some g) : v'.ownBlock ≠ some g := by
  intro hg'
  obtain ⟨c1, h1⟩ := ownsRow_block h hg
  obtain ⟨c2, h2⟩ := ownsRow_block h' hg'
  rw [h1] at h2
  simp at h2
  exact hne h2.2
theorem block_apart {w : World} {b : Nat} {e T : TypeId} {s n : Nat} {v : Value} {xs : List Value} {lb : Nat} {cs : Array Value} {f : Nat × Nat} (hb : w.heap[lb]? = some (.cells cs T f)) (h : w.ownsRow b e s v n xs) (hne : T ≠ e) {g : Nat} (hg : v.ownBlock = some g) : g ≠ lb := by
  intro e1
  subst e1
  obtain ⟨c1, h1⟩ := ownsRow_block h hg
  rw [hb] at h1
  simp at h1
  exact hne h1.2.1

/-- What else is kept stays while the blocks of S are changed. -/
theorem AKm.others {w w' : World} {B lb : Nat} {pt rt : Value} {K : Kp} {ls : List Value} (h : AKm w B lb pt rt K ls) {S : Nat → Prop} (hc : ChgS S w w') (hS : ∀ k, S k → k = lb ∨ K.xl.ownBlock = some k ∨ K.xm.ownBlock = some k ∨ K.xo.ownBlock = some k) :
    (∀ i, (a : i < K.xs.length) → (b : i < K.ms.length) → FullL w' B K.xs[i] K.ms[i]) ∧ (∀ i, (a : i < K.os.length) → (b : i < K.om.length) → FullN w' B K.os[i] K.om[i]) := by
  constructor
  · intro i a b
    have hf := h.full i a b
    refine hf.same fun g hg => hc.block g (hf.lt hg).2 fun hs => ?_
    obtain ⟨ao, n, e, ho⟩ := hf
    rcases hS g hs with h1 | h1 | h1 | h1
    · exact block_apart h.law ho (by decide) hg h1
    · exact types_apart ho h.lrow (by decide) hg h1
    · exact h.apart _ (List.getElem_mem a) g hg h1
    · exact types_apart ho h.orow (by decide) hg h1
  · intro i a b
    have hf := h.ofull i a b
    refine hf.same fun g hg => hc.block g (by obtain ⟨c, hc⟩ := hf.typ hg; exact (Array.getElem?_eq_some_iff.1 hc).1) fun hs => ?_
    obtain ⟨ao, n, e, _, ho⟩ := hf
    rcases hS g hs with h1 | h1 | h1 | h1
    · exact block_apart h.law ho (by decide) hg h1
    · exact types_apart ho h.lrow (by decide) hg h1
    · exact types_apart ho h.mrow (by decide) hg h1
    · exact types_apart ho h.orow (by decide) hg h1

theorem AKm.pushL {w w1 w' : World} {B lb : Nat} {pt rt : Value} {K : Kp} {ls : List Value} (h : AKm w B lb pt rt K ls) (hb : Below w.heap.size w w1) {x y : Value} (ho : w'.ownsRow B 27 1 x (ls.length + 1) (ls ++ [y])) (hg : w1.grownBy w' K.xl.ownBlock) :
    AKm (w'.setCell ⟨lb, 2, none⟩ x) B lb pt rt { K with xl := x } (ls ++ [y]) ∧ ChgS (fun k => k = lb ∨ K.xl.ownBlock = some k) w (w'.setCell ⟨lb, 2, none⟩ x) := by
  have h1 := h.below hb
  have hc0 : ChgS (fun k => k = lb ∨ K.xl.ownBlock = some k) w w1 := ⟨hb.os, hb.tape, hb.output, hb.size, fun k hk _ => hb.block k hk⟩
  have hc := (hc0.grown hg (fun k hk => Or.inl (Or.inr hk))).setCell (p := ⟨lb, 2, none⟩) (Or.inl (Or.inl rfl)) x
  have hl : w'.heap[lb]? = some (.cells #[pt, rt, K.xl, K.xm, K.xo, I K.mkv] 103 (0, 0)) := by
    rw [hg.block lb (Array.getElem?_eq_some_iff.1 h1.law).1 (fun e => block_apart h1.law h1.lrow (by decide) e.symm rfl)]
    exact h1.law
  obtain ⟨f1, f2⟩ := h.others hc (fun k hk => hk.elim Or.inl fun hk => Or.inr (Or.inl hk))
  refine ⟨⟨?_, h.hlb, ?_, ?_, h.len, f1, h.apart, ?_, h.olen, f2, h.ole⟩, hc⟩
  · have := nb_set hl 2 x
    simpa [Array.setIfInBounds] using this
  · have := ownsRow_setCell_type ho hl (by decide) 2 x
    simpa using this
  · refine hc.row h.mrow fun g hg' hs => ?_
    rcases hs with hs | hs
    · exact block_apart h.law h.mrow (by decide) hg' hs
    · exact types_apart h.mrow h.lrow (by decide) hg' hs
  · refine hc.row h.orow fun g hg' hs => ?_
    rcases hs with hs | hs
    · exact block_apart h.law h.orow (by decide) hg' hs
    · exact types_apart h.orow h.lrow (by decide) hg' hs

theorem AKm.pushM {w w1 w' : World} {B lb : Nat} {pt rt : Value} {K : Kp} {y : Value} {m : Int} (h : AKm w B lb pt rt K (K.xs ++ [y])) (hy : FullL w B y m) (hay : Apt y K.xm) (hb : Below w.heap.size w w1) {x : Value} (ho : w'.ownsRow B 3 1 x (K.xs.length + 1) (K.ms.map I ++ [I m])) (hg : w1.grownBy w' K.xm.ownBlock)
    (hx : ∀ g, x.ownBlock = some g → K.xm.ownBlock = some g ∨ w.heap.size ≤ g) :
    AK (w'.setCell ⟨lb, 3, none⟩ x) B lb pt rt { K with xm := x, xs := K.xs ++ [y], ms := K.ms ++ [m] } ∧ ChgS (fun k => k = lb ∨ K.xm.ownBlock = some k) w (w'.setCell ⟨lb, 3, none⟩ x) := by
  have h1 := h.below hb
  have hc0 : ChgS (fun k => k = lb ∨ K.xm.ownBlock = some k) w w1 := ⟨hb.os, hb.tape, hb.output, hb.size, fun k hk _ => hb.block k hk⟩
  have hc := (hc0.grown hg (fun k hk => Or.inl (Or.inr hk))).setCell (p := ⟨lb, 3, none⟩) (Or.inl (Or.inl rfl)) x
  have hl : w'.heap[lb]? = some (.cells #[pt, rt, K.xl, K.xm, K.xo, I K.mkv] 103 (0, 0)) := by
    rw [hg.block lb (Array.getElem?_eq_some_iff.1 h1.law).1 (fun e => block_apart h1.law h1.mrow (by decide) e.symm rfl)]
    exact h1.law
  obtain ⟨f1, f2⟩ := h.others hc (fun k hk => hk.elim Or.inl fun hk => Or.inr (Or.inr (Or.inl hk)))
  have hyl : FullL (w'.setCell ⟨lb, 3, none⟩ x) B y m := hy.same fun g hg' => hc.block g (hy.lt hg').2 fun hs => by
    obtain ⟨ao, n, e, ho'⟩ := hy
    rcases hs with hs | hs
    · exact block_apart h.law ho' (by decide) hg' hs
    · exact hay g hg' hs
  refine ⟨⟨?_, h.hlb, ?_, ?_, by simp [h.len], ?_, ?_, ?_, h.olen, f2, h.ole⟩, hc⟩
  · have := nb_set hl 3 x
    simpa [Array.setIfInBounds] using this
  · refine hc.row h.lrow fun g hg' hs => ?_
    rcases hs with hs | hs
    · exact block_apart h.law h.lrow (by decide) hg' hs
    · exact types_apart h.lrow h.mrow (by decide) hg' hs
  · have := ownsRow_setCell_type ho hl (by decide) 3 x
    simpa using this
  · intro i a b
    have hlen := h.len
    by_cases e : i < K.xs.length
    · have e' : i < K.ms.length := by omega
      simp only [List.getElem_append_left e, List.getElem_append_left e']
      exact f1 i e e'
    · have e2 : i = K.xs.length := by simp at a; omega
      subst e2
      have e3 : K.ms.length ≤ K.xs.length := by omega
      simp only [List.getElem_append_right (Nat.le_refl _), List.getElem_append_right e3, Nat.sub_self, List.getElem_cons_zero, hlen]
      exact hyl
  · intro z hz g hg' hgx
    rcases List.mem_append.1 hz with hz | hz
    · obtain ⟨i, hi, rfl⟩ := List.getElem_of_mem hz
      have := h.full i hi (by have := h.len; omega)
      rcases hx g hgx with h2 | h2
      · exact h.apart _ hz g hg' h2
      · have := (this.lt hg').2; omega
    · simp at hz; subst hz
      rcases hx g hgx with h2 | h2
      · exact hay g hg' h2
      · have := (hy.lt hg').2; omega
  · refine hc.row h.orow fun g hg' hs => ?_
    rcases hs with hs | hs
    · exact block_apart h.law h.orow (by decide) hg' hs
    · exact types_apart h.orow h.mrow (by decide) hg' hs

end Go.Proofs.Ytjnmpejcegmkhaa
