/- What a step of the program may write in a leaf's items; contracts of room, hasRoom. Contracts of the program's takeTicket, hasRoom, store, fetch. No statement of the seat is proved here. -/
import Derived.Test.YtjnmpejcegmkhaaPStepB
import Derived.Test.YtjnmpejcegmkhaaRefStep8
import Derived.Deep.AppendLies
namespace Go.Proofs.Ytjnmpejcegmkhaa
open Go.RowKit

def itCells (y : Int × Int) : List Value := [I y.1, I y.2]
theorem it_len (y : Int × Int) : (itCells y).length = 2 := rfl

section
variable {w : World} {B : Nat} {L : PLay} {v i g : Nat} {W : World} {n : PN} {q : PP}

theorem PF.irow (h : PF w B L v i g W n q) : W.ownsRow B 135 2 n.iv n.items.length (n.items.flatMap itCells) := by
  have hv' : v < (L.foc v n i q).nodes.length := by simpa [PLay.foc] using h.hv
  have := h.rep.items v hv'
  rw [h.node_at hv'] at this
  exact this

theorem PF.item_at (h : PF w B L v i g W n q) : ∃ ao cap, n.iv = .slice ao n.items.length cap ∧ n.items.length ≤ cap ∧ n.items.length ≤ maxLen ∧ cap ≤ maxLen ∧
    ∀ t, (ht : t < n.items.length) → ∃ gi, ao = some ⟨gi, 0, none⟩ ∧ gi < W.heap.size ∧ gi ≠ L.tb ∧ gi ≠ g ∧ (∀ k, W.frozen? ⟨gi, k, none⟩ = false) ∧ W.cell? ⟨gi, t * 2, none⟩ = some (I (n.items[t]).1) ∧ W.cell? ⟨gi, t * 2 + 1, none⟩ = some (I (n.items[t]).2) := by
  have hr := h.irow
  obtain ⟨ao, cap, e1, c1, c2, c3, h2⟩ := ownsRow_cells hr
  refine ⟨ao, cap, e1, c1, c2, c3, fun t ht => ?_⟩
  obtain ⟨gi, ea, _, d0⟩ := h2 (t * 2 + 0) (I (n.items[t]).1) (by rw [flat_at itCells 2 it_len n.items t ht 0 (by omega)]; rfl)
  obtain ⟨gi', ea', _, d1⟩ := h2 (t * 2 + 1) (I (n.items[t]).2) (by rw [flat_at itCells 2 it_len n.items t ht 1 (by omega)]; rfl)
  rw [ea] at ea'
  simp at ea'
  subst ea'
  obtain ⟨cur, hb⟩ := ownsRow_block hr (g := gi) (by rw [e1, ea]; rfl)
  refine ⟨gi, ea, cell_lt d0, ?_, ?_, (nb_facts hb).2, d0, d1⟩
  · intro e
    have := h.blkN
    rw [← e, hb] at this
    simp at this
  · intro e
    obtain ⟨cur', hb', _⟩ := h.blkQ
    rw [← e, hb] at hb'
    simp at hb'

theorem PF.setI (h : PF w B L v i g W n q) {gi cap : Nat} (e : n.iv = .slice (some ⟨gi, 0, none⟩) n.items.length cap) (t : Nat) (ht : t < n.items.length) (j : Nat) (hj : j < 2) (x : Value) (y : Int × Int) (he : itCells y = (itCells n.items[t]).set j x) :
    PF w B L v i g (W.setCell ⟨gi, t * 2 + j, none⟩ x) { n with items := n.items.set t y } q := by
  have hr := h.irow
  rw [e] at hr
  obtain ⟨cur, hb⟩ := ownsRow_block hr (g := gi) rfl
  have hB : B ≤ gi := (hr.lt gi rfl).1
  obtain ⟨hr', _⟩ := hr.stored (t * 2 + j) x
  rw [flat_set itCells 2 it_len n.items t ht j hj x y he] at hr'
  refine ⟨⟨?_, h.rep.treeB, ?_, ?_, ?_, ?_⟩, h.chg.trans (ChgT.cell hb hB (by simp) _ _), h.hv, h.hi, h.hg⟩
  · show (W.setCell _ x).heap[L.tb]? = some (.cells (pTree (L.foc v { n with items := n.items.set t y } i q)).toArray _ _)
    have ep : pTree (L.foc v { n with items := n.items.set t y } i q) = pTree (L.foc v n i q) := by
      simp only [pTree]
      congr 2
      obtain ⟨_, s1⟩ := flat_split pnCells L.nodes v h.hv n
      obtain ⟨_, s2⟩ := flat_split pnCells L.nodes v h.hv { n with items := n.items.set t y }
      rw [s1, s2]
      rfl
    rw [ep, Below.heap_setCell _ _ _ _ (by intro e'; have := h.blkN; rw [e'] at this; simp only at this; rw [hb] at this; simp at this)]
    exact h.blkN
  · have := h.rep.len; simpa [PLay.foc] using this
  · exact ownsRow_setCell_type h.rep.prow hb (by decide) _ _
  · intro u hu'
    have hu : u < L.nodes.length := by simpa [PLay.foc] using hu'
    by_cases eu : u = v
    · subst eu
      simp only [List.getElem_set_self]
      rw [List.length_set, e]
      exact hr'
    · have hu2 : u < (L.foc v n i q).nodes.length := by simpa [PLay.foc] using hu
      have r := h.rep.items u hu2
      have hx : ((L.foc v n i q).nodes[u]).iv.ownBlock ≠ some gi := by
        intro hx
        have hv' : v < (L.foc v n i q).nodes.length := by simpa [PLay.foc] using h.hv
        refine eu (h.rep.ind u v hu2 hv' gi hx ?_)
        rw [h.node_at hv', e]
        rfl
      simp only [List.getElem_set_ne (Ne.symm eu)] at r hx ⊢
      exact ownsRow_setCell_other r hx x
  · intro a b ha hb2 k e1 e2
    have ha' : a < (L.foc v n i q).nodes.length := by simpa [PLay.foc] using ha
    have hb' : b < (L.foc v n i q).nodes.length := by simpa [PLay.foc] using hb2
    have key : ∀ u, (hu : u < (L.foc v n i q).nodes.length) → (hu' : u < (L.foc v { n with items := n.items.set t y } i q).nodes.length) → ((L.foc v { n with items := n.items.set t y } i q).nodes[u]).iv = ((L.foc v n i q).nodes[u]).iv := by
      intro u hu hu'
      by_cases eu : u = v
      · subst eu; simp only [List.getElem_set_self]
      · simp only [List.getElem_set_ne (Ne.symm eu)]
    rw [key a ha' ha] at e1
    rw [key b hb' hb2] at e2
    exact h.rep.ind a b ha' hb' k e1 e2

/-- An item is appended. -/
theorem PF.pushI (h : PF w B L v i g W n q) {W1 w2 : World} (hW : Below W.heap.size W W1) {gx cx : Nat} {y : Int × Int}
    (ho : w2.ownsRow B 135 2 (.slice (some ⟨gx, 0, none⟩) (n.items.length + 1) cx) (n.items.length + 1) (n.items.flatMap itCells ++ itCells y)) (hg : W1.grownBy w2 n.iv.ownBlock) (hgl : n.iv.ownBlock = some gx ∨ gx = W1.heap.size) :
    PF w B L v i g (w2.setCell ⟨L.tb, 8 + v * 21 + 20, none⟩ (.slice (some ⟨gx, 0, none⟩) (n.items.length + 1) cx)) { n with iv := .slice (some ⟨gx, 0, none⟩) (n.items.length + 1) cx, items := n.items ++ [y] } q := by
  have h1 := h.below hW
  have hr := h1.irow
  have hnt : some L.tb ≠ n.iv.ownBlock := by
    intro e
    obtain ⟨c', hc'⟩ := ownsRow_block hr e.symm
    rw [h1.blkN] at hc'
    simp at hc'
  have ht2 : w2.heap[L.tb]? = some (.cells (pTree (L.foc v n i q)).toArray 78 (0, 0)) := by
    rw [hg.block L.tb h1.ltN hnt]; exact h1.blkN
  have hch : ChgT B [78, 119, 135] W1 (w2.setCell ⟨L.tb, 8 + v * 21 + 20, none⟩ (.slice (some ⟨gx, 0, none⟩) (n.items.length + 1) cx)) := by
    refine ⟨hg.os, hg.tape, hg.output, by simpa [World.setCell] using hg.size, fun k hk hc => ?_⟩
    have hkt : k ≠ L.tb := by
      intro e
      subst e
      rcases hc with hc | hc
      · have := h.rep.treeB
        exact absurd hc (by show ¬ _ < _; have e : (L.foc v n i q).tb = L.tb := rfl; omega)
      · exact absurd (hc _ _ _ h1.blkN) (by simp)
    rw [Below.heap_setCell _ _ _ _ hkt, hg.block k hk (fun he => ?_)]
    rcases hc with hc | hc
    · have := (hr.lt k he.symm).1; omega
    · obtain ⟨c', hc'⟩ := ownsRow_block hr he.symm
      exact absurd (hc _ _ _ hc') (by simp)
  have hv' : v < (L.foc v n i q).nodes.length := by simpa [PLay.foc] using h.hv
  refine ⟨⟨?_, h.rep.treeB, ?_, ?_, ?_, ?_⟩, h1.chg.trans hch, h.hv, h.hi, h.hg⟩
  · show (w2.setCell _ _).heap[L.tb]? = _
    rw [nb_set ht2]
    congr 2
    have hl8 : (pConf L.c).length = 8 := rfl
    rw [List.setIfInBounds_toArray]
    congr 1
    show (pConf L.c ++ ((L.nodes.set v n).flatMap pnCells ++ [L.pv])).set (8 + v * 21 + 20) _ = pConf L.c ++ ((L.nodes.set v _).flatMap pnCells ++ [L.pv])
    have hvl : v < (L.nodes.set v n).length := by simpa using h.hv
    rw [List.set_append_right _ _ (by omega), List.set_append_left _ _ (by rw [flat_length pnCells 21 pn_len]; omega), hl8, show 8 + v * 21 + 20 - 8 = v * 21 + 20 from by omega,
      flat_set pnCells 21 pn_len (L.nodes.set v n) v hvl 20 (by omega) _ { n with iv := .slice (some ⟨gx, 0, none⟩) (n.items.length + 1) cx, items := n.items ++ [y] } (by rw [List.getElem_set_self]; rfl), List.set_set]
  · have := h.rep.len; simpa [PLay.foc] using this
  · refine ownsRow_setCell_type (h1.rep.prow.kept hg ?_) ht2 (by decide) _ _
    cases hx : (L.foc v n i q).pv.ownBlock with
    | none => exact Or.inl rfl
    | some g' =>
      refine Or.inr fun he => ?_
      obtain ⟨c1, hc1⟩ := ownsRow_block h1.rep.prow hx
      obtain ⟨c2, hc2⟩ := ownsRow_block hr he.symm
      rw [hc1] at hc2
      simp at hc2
  · intro u hu'
    have hu : u < L.nodes.length := by simpa [PLay.foc] using hu'
    by_cases eu : u = v
    · subst eu
      simp only [List.getElem_set_self, List.length_append, List.length_cons, List.length_nil]
      have := ownsRow_setCell_type ho ht2 (by decide) (8 + u * 21 + 20) (.slice (some ⟨gx, 0, none⟩) (n.items.length + 1) cx)
      have e : (n.items ++ [y]).flatMap itCells = n.items.flatMap itCells ++ itCells y := by rw [List.flatMap_append]; simp
      show World.ownsRow _ B _ 2 _ _ ((n.items ++ [y]).flatMap itCells)
      rw [e]
      exact this
    · have hu2 : u < (L.foc v n i q).nodes.length := by simpa [PLay.foc] using hu
      have r := h1.rep.items u hu2
      have r2 := r.kept hg (by
        cases hx : ((L.foc v n i q).nodes[u]).iv.ownBlock with
        | none => exact Or.inl rfl
        | some g' => exact Or.inr fun he => eu (h.rep.ind u v hu2 hv' g' hx (by rw [h.node_at hv']; exact he.symm)))
      have r3 := ownsRow_setCell_type r2 ht2 (by decide) (8 + v * 21 + 20) (.slice (some ⟨gx, 0, none⟩) (n.items.length + 1) cx)
      simp only [List.getElem_set_ne (Ne.symm eu)] at r3 ⊢
      exact r3
  · intro a b ha hb k e1 e2
    have ha' : a < (L.foc v n i q).nodes.length := by simpa [PLay.foc] using ha
    have hb' : b < (L.foc v n i q).nodes.length := by simpa [PLay.foc] using hb
    have key : ∀ u, (hu : u < (L.foc v n i q).nodes.length) → u ≠ v → ((L.foc v n i q).nodes[u]).iv.ownBlock = some gx → False := by
      intro u hu hne hx
      rcases hgl with hgl | hgl
      · exact hne (h.rep.ind u v hu hv' gx hx (by rw [h.node_at hv']; exact hgl))
      · have := ((h1.rep.items u hu).lt gx hx).2; omega
    by_cases h1' : a = v
    · by_cases h2 : b = v
      · omega
      · subst h1'
        simp only [List.getElem_set_self, Value.ownBlock, Option.some.injEq] at e1
        simp only [List.getElem_set_ne (Ne.symm h2)] at e2
        subst e1
        exact (key b hb' h2 (by simp only [List.getElem_set_ne (Ne.symm h2)]; exact e2)).elim
    · by_cases h2 : b = v
      · subst h2
        simp only [List.getElem_set_self, Value.ownBlock, Option.some.injEq] at e2
        simp only [List.getElem_set_ne (Ne.symm h1')] at e1
        subst e2
        exact (key a ha' h1' (by simp only [List.getElem_set_ne (Ne.symm h1')]; exact e1)).elim
      · simp only [List.getElem_set_ne (Ne.symm h1')] at e1
        simp only [List.getElem_set_ne (Ne.symm h2)] at e2
        exact h.rep.ind a b ha' hb' k (by simp only [List.getElem_set_ne (Ne.symm h1')]; exact e1) (by simp only [List.getElem_set_ne (Ne.symm h2)]; exact e2)
end

def roomTo : Nat → Nat → Nat → Nat
  | 0, _, r => r
  | f + 1, u, r => if 1 < u then roomTo f (u / 2) (r / 2) else r
theorem roomTo_stop (f u r : Nat) (h : ¬ 1 < u) : roomTo f u r = r := by cases f <;> simp [roomTo, h]
theorem roomTo_eq : ∀ s : Fin 5, ∀ d : Fin 5, ∀ u : Fin 32, Nat.log2 u.1 ≤ d.1 → roomTo 5 u.1 (s.1 * 2 ^ d.1) = s.1 * 2 ^ (d.1 - Nat.log2 u.1) := by decide +kernel

set_option maxHeartbeats 2000000 in
theorem room_c {w : World} {B : Nat} {L : PLay} (h : PRep w B L) (u : Nat) (hu : u < 32) (hs0 : 0 ≤ L.c.slots) (hs4 : L.c.slots ≤ 4) (hd0 : 0 ≤ L.c.depth) (hd4 : L.c.depth ≤ 4) (hld : (Nat.log2 u : Int) ≤ L.c.depth) :
    Calls Try.prog 133 #[.pointer (some ⟨L.tb, 0, none⟩), I u] w fun e w' => e = .returned (I (roomOf L.c u)) ∧ Below w.heap.size w w' := by
  obtain ⟨d, hd⟩ := Int.eq_ofNat_of_zero_le hd0
  obtain ⟨s, hs⟩ := Int.eq_ofNat_of_zero_le hs0
  have k1 := h.ccell 1 (by omega)
  have k3 := h.ccell 3 (by omega)
  simp only [pConf, List.getElem?_cons_succ, List.getElem?_cons_zero] at k1 k3
  have hR := roomTo_eq ⟨s, by omega⟩ ⟨d, by omega⟩ ⟨u, hu⟩ (by show Nat.log2 u ≤ d; omega)
  simp only at hR
  have HR : Hid (roomOf L.c u = ((roomTo 5 u (s * 2 ^ d) : Nat) : Int)) := by
    show _ = _
    rw [hR]
    unfold roomOf
    rw [hs, hd]
    simp
  rw [hd] at k1
  rw [hs] at k3
  have hf := fun W => firstOfDepth_c d (by omega) W
  replace hf : Hid _ := hf
  rw [HR.out]
  have hP : 2 ^ d ≤ 16 := Nat.le_trans (Nat.pow_le_pow_right (by omega) (by omega : d ≤ 4)) (by decide)
  have hS : s * 2 ^ d ≤ 4 * 16 := Nat.mul_le_mul (by omega) hP
  have hS2 : ((s : Int) * ((2 ^ d : Nat) : Int)) = ((s * 2 ^ d : Nat) : Int) := by simp
  generalize 2 ^ d = P2 at *
  generalize hM : s * P2 = M at *
  clear h hR HR hs hd hld hM
  go_enter Try.func133, Try.ntmps133
  go_wp2_with fail
  go_quiet ((go_at_call 97; exact Calls.quiet_of_same (hf.out _)))
  have hb : Below w.heap.size w (w.drewN nq) := Below.drewN' (Below.refl _ _) nq
  replace hb : Hid _ := hb
  clear hf k1 k3
  generalize w.drewN nq = wq at *
  go_wp2_with fail
  go_loop [5, 6] (fun r x => ∃ f uu rr : Nat, uu < 2 ^ f ∧ f ≤ 5 ∧ uu < 32 ∧ rr ≤ 64 ∧ Hid (roomTo f uu rr = roomTo 5 u M) ∧ r = .int .i64 rr ∧ x = .int .i64 uu) (fun _ x => (intOf x).toNat)
  case atStart => exact ⟨5, u, M, by omega, by omega, hu, by omega, rfl, rfl, rfl⟩
  case round =>
    obtain ⟨f, uu, rr, h1, h2, h3, h4, h5, rfl, rfl⟩ := hrel
    by_cases hgt : 1 < uu
    · cases f with
      | zero => exfalso; simp at h1; omega
      | succ f =>
        have H5 : Hid (roomTo f (uu / 2) (rr / 2) = roomTo 5 u M) := by have := h5.out; simp only [roomTo, hgt, if_true] at this; exact this
        have h1' : uu / 2 < 2 ^ f := by rw [Nat.pow_succ] at h1; omega
        replace h1' : Hid _ := h1'
        clear h5 h1
        go_wp2
        go_round
        case rel => exact ⟨f, uu / 2, rr / 2, h1', by omega, by omega, by omega, H5, by go_num, by go_num⟩
        case measure => simp [intOf]; omega
    · have H5 : Hid (((rr : Nat) : Int) = ((roomTo 5 u M : Nat) : Int)) := by have := h5.out; rw [roomTo_stop _ _ _ hgt] at this; show _ = _; rw [this]
      clear h5 h1
      go_wp2
      go_ret
      exact ⟨ret_i H5.out, hb.out⟩

section
variable {w : World} {B : Nat} {L : PLay} {v i g : Nat} {W : World} {n : PN} {q : PP}

set_option maxHeartbeats 2000000 in
theorem ticket_get (h : PF w B L v i g W n q) (hk : q.kind = 2) (hg0 : 0 ≤ n.gets) (hg9 : n.gets ≤ 1000000000000) :
    Calls Try.prog 132 #[.pointer (some ⟨g, i * 11, none⟩), .pointer (some ⟨L.tb, 8 + v * 21, none⟩)] W fun e w' => e = .returned (.tuple #[]) ∧ PF w B L v i g w' { n with gets := n.gets + 1 } { q with ticket := n.gets, phase := 14 } := by
  obtain ⟨cap, c3, c4, c7, p1, p2, p3, p4, hi, hv32, fz, fn, hne, lN, lQ⟩ := h.facts
  have c0 := h.pcell 0 (by omega)
  have c10 := h.pcell 10 (by omega)
  have d19 := h.ncell 19 (by omega)
  simp only [ppCells, pnCells, List.getElem?_cons_succ, List.getElem?_cons_zero, Nat.add_zero] at c0 c10 d19
  rw [hk] at c0
  have HE : Hid (PF w B L v i g (((W.setCell ⟨g, i * 11 + 10, none⟩ (I n.gets)).setCell ⟨L.tb, 8 + v * 21 + 19, none⟩ (I (n.gets + 1))).setCell ⟨g, i * 11 + 3, none⟩ (I 14)) { n with gets := n.gets + 1 } { q with ticket := n.gets, phase := 14 }) :=
    ((h.setQ 10 (by omega) (I n.gets) { q with ticket := n.gets } rfl).setN 19 (by omega) (I (n.gets + 1)) { n with gets := n.gets + 1 } rfl rfl rfl).setQ 3 (by omega) (I 14) _ rfl
  clear h hk
  go_enter Try.func132, Try.ntmps132
  go_wp2
  go_end0
  exact ⟨rfl, HE.out⟩

set_option maxHeartbeats 2000000 in
theorem ticket_inc (h : PF w B L v i g W n q) (hk : q.kind = 0) (hv : q.node = (v : Int)) (hp0 : 0 ≤ n.puts) (hp9 : n.puts ≤ 1000000000000) :
    Calls Try.prog 132 #[.pointer (some ⟨g, i * 11, none⟩), .pointer (some ⟨L.tb, 8 + v * 21, none⟩)] W fun e w' => e = .returned (.tuple #[]) ∧ PF w B L v i g w' { n with puts := n.puts + 1 } { q with val := rank v + ((2 ^ Nat.log2 v : Nat) : Int) * n.puts, phase := 19 } := by
  obtain ⟨cap, c3, c4, c7, p1, p2, p3, p4, hi, hv32, fz, fn, hne, lN, lQ⟩ := h.facts
  have c0 := h.pcell 0 (by omega)
  have c5 := h.pcell 5 (by omega)
  have d18 := h.ncell 18 (by omega)
  simp only [ppCells, pnCells, List.getElem?_cons_succ, List.getElem?_cons_zero, Nat.add_zero] at c0 c5 d18
  rw [hk] at c0
  rw [hv] at c4
  have l5 := log2_le5 v (by omega)
  have hpl := fun W => place_c v (by omega) W
  have hf := fun W => firstOfDepth_c (Nat.log2 v) l5 W
  have hrk : rank v ≤ 64 := by
    have : ∀ u : Fin 64, rank u.1 ≤ 64 := by decide
    exact this ⟨v, by omega⟩
  have hP : 2 ^ Nat.log2 v ≤ 32 := Nat.le_trans (Nat.pow_le_pow_right (by omega) l5) (by decide)
  have hm0 : 0 ≤ ((2 ^ Nat.log2 v : Nat) : Int) * n.puts := Int.mul_nonneg (Int.natCast_nonneg _) hp0
  have hm9 : ((2 ^ Nat.log2 v : Nat) : Int) * n.puts ≤ 32 * n.puts := Int.mul_le_mul_of_nonneg_right (Int.ofNat_le.2 hP) hp0
  generalize rank v = rk at *
  generalize 2 ^ Nat.log2 v = P2 at *
  generalize hM : (P2 : Int) * n.puts = M at *
  have HE : Hid (PF w B L v i g (((W.setCell ⟨g, i * 11 + 5, none⟩ (I (rk + M))).setCell ⟨L.tb, 8 + v * 21 + 18, none⟩ (I (n.puts + 1))).setCell ⟨g, i * 11 + 3, none⟩ (I 19)) { n with puts := n.puts + 1 } { q with val := rk + M, phase := 19 }) :=
    ((h.setQ 5 (by omega) (I (rk + M)) { q with val := rk + M } rfl).setN 18 (by omega) (I (n.puts + 1)) { n with puts := n.puts + 1 } rfl rfl rfl).setQ 3 (by omega) (I 19) _ rfl
  replace hf : Hid _ := hf
  replace hpl : Hid _ := hpl
  clear h hk hv
  go_enter Try.func132, Try.ntmps132
  go_wp2_with fail
  refine Calls.mono (hpl.out _) ?_
  rintro e w1 ⟨rfl, rfl⟩
  go_wp2_with fail
  go_region_with (go_at_call 97; refine Calls.mono (hf.out _) ?_; rintro e w1 ⟨rfl, rfl⟩)
  all_goals
    go_wp2
    go_end0
    exact ⟨rfl, HE.out.drew⟩

theorem PF.grown (h : PF w B L v i g W n q) {w2 : World} (hg : W.grownBy w2 n.iv.ownBlock) : w2.heap[L.tb]? = W.heap[L.tb]? ∧ w2.heap[g]? = W.heap[g]? := by
  have hr := h.irow
  obtain ⟨cur, hb, _⟩ := h.blkQ
  constructor
  · refine hg.block _ h.ltN fun e => ?_
    obtain ⟨c', hc'⟩ := ownsRow_block hr e.symm
    rw [h.blkN] at hc'
    simp at hc'
  · refine hg.block _ (Array.getElem?_eq_some_iff.1 hb).1 fun e => ?_
    obtain ⟨c', hc'⟩ := ownsRow_block hr e.symm
    rw [hb] at hc'
    simp at hc'

theorem Try.info135 : (Try.prog.info? 135).map (fun i => (i.zero, i.size, i.bytes)) = some (some (.agg #[.int .i64 0, .int .i64 0]), 2, 16) := by kernel_rfl

set_option maxHeartbeats 2000000 in
theorem ticket_put (h : PF w B L v i g W n q) (hB : B ≤ W.heap.size) (hk : q.kind = 1) (hp0 : 0 ≤ n.puts) (hp9 : n.puts ≤ 1000000000000) (hil : n.items.length ≤ 1000000000000) :
    Calls Try.prog 132 #[.pointer (some ⟨g, i * 11, none⟩), .pointer (some ⟨L.tb, 8 + v * 21, none⟩)] W fun e w' => e = .returned (.tuple #[]) ∧ ∃ x, PF w B L v i g w' { n with puts := n.puts + 1, iv := x, items := n.items ++ [(0, 0)] } { q with ticket := n.puts, phase := 13 } := by
  obtain ⟨cap, c3, c4, c7, p1, p2, p3, p4, hi, hv32, fz, fn, hne, lN, lQ⟩ := h.facts
  have c0 := h.pcell 0 (by omega)
  have c10 := h.pcell 10 (by omega)
  have d18 := h.ncell 18 (by omega)
  have d20 := h.ncell 20 (by omega)
  simp only [ppCells, pnCells, List.getElem?_cons_succ, List.getElem?_cons_zero, Nat.add_zero] at c0 c10 d18 d20
  rw [hk] at c0
  obtain ⟨ao, ic, e1, i1, i2, i3, i4⟩ := h.item_at
  rw [e1] at d20
  have h1 := (h.setQ 10 (by omega) (I n.puts) { q with ticket := n.puts } rfl).setN 18 (by omega) (I (n.puts + 1)) { n with puts := n.puts + 1 } rfl rfl rfl
  have hba : Below ((W.setCell ⟨g, i * 11 + 10, none⟩ (I n.puts)).setCell ⟨L.tb, 8 + v * 21 + 18, none⟩ (I (n.puts + 1))).heap.size ((W.setCell ⟨g, i * 11 + 10, none⟩ (I n.puts)).setCell ⟨L.tb, 8 + v * 21 + 18, none⟩ (I (n.puts + 1))) (((W.setCell ⟨g, i * 11 + 10, none⟩ (I n.puts)).setCell ⟨L.tb, 8 + v * 21 + 18, none⟩ (I (n.puts + 1))).alloc (.cells #[I 0, I 0] 135)) := (Below.refl _ _).alloc (Nat.le_refl _) _
  have h2 := h1.below hba
  have hrow := h2.irow
  have e1' : ({ n with puts := n.puts + 1 } : PN).iv = .slice ao n.items.length ic := e1
  rw [e1'] at hrow
  have hsz : (((W.setCell ⟨g, i * 11 + 10, none⟩ (I n.puts)).setCell ⟨L.tb, 8 + v * 21 + 18, none⟩ (I (n.puts + 1))).alloc (.cells #[I 0, I 0] 135)).heap.size = W.heap.size + 1 := by simp [World.setCell]
  have HO : Hid _ := hrow
  have HN : Hid (∀ j u, [I 0, I 0][j]? = some u → (((W.setCell ⟨g, i * 11 + 10, none⟩ (I n.puts)).setCell ⟨L.tb, 8 + v * 21 + 18, none⟩ (I (n.puts + 1))).alloc (.cells #[I 0, I 0] 135)).cell? ((⟨W.heap.size, 0, none⟩ : Addr).add j) = some u) := by
    have := cells_new ((W.setCell ⟨g, i * 11 + 10, none⟩ (I n.puts)).setCell ⟨L.tb, 8 + v * 21 + 18, none⟩ (I (n.puts + 1))) [I 0, I 0] 135
    have es : ((W.setCell ⟨g, i * 11 + 10, none⟩ (I n.puts)).setCell ⟨L.tb, 8 + v * 21 + 18, none⟩ (I (n.puts + 1))).heap.size = W.heap.size := by simp [World.setCell]
    rw [es] at this
    exact this
  have HC : Hid (∀ w', (((W.setCell ⟨g, i * 11 + 10, none⟩ (I n.puts)).setCell ⟨L.tb, 8 + v * 21 + 18, none⟩ (I (n.puts + 1))).alloc (.cells #[I 0, I 0] 135)).grownBy w' (Value.slice ao n.items.length ic).ownBlock → (w'.cell? ⟨L.tb, 8 + v * 21 + 20, none⟩ = some (.slice ao n.items.length ic) ∧ w'.frozen? ⟨L.tb, 8 + v * 21 + 20, none⟩ = false) ∧ w'.cell? ⟨g, i * 11 + 3, none⟩ = some (I q.phase) ∧ w'.frozen? ⟨g, i * 11 + 3, none⟩ = false) := by
    intro w' hg
    rw [← e1'] at hg
    obtain ⟨a1, a2⟩ := h2.grown hg
    refine ⟨⟨?_, ?_⟩, ?_, ?_⟩
    · rw [World.cell?_of_block (a := ⟨L.tb, 8 + v * 21 + 20, none⟩) a1, h2.ncell 20 (by omega), ← e1']; rfl
    · rw [World.frozen?_of_block (a := ⟨L.tb, 8 + v * 21 + 20, none⟩) a1]; exact h2.fzN _
    · rw [World.cell?_of_block (a := ⟨g, i * 11 + 3, none⟩) a2, h2.pcell 3 (by omega)]; rfl
    · rw [World.frozen?_of_block (a := ⟨g, i * 11 + 3, none⟩) a2]; exact h2.fzQ _
  have HP : Hid (∀ w' gx cx, w'.ownsRow B 135 2 (.slice (some ⟨gx, 0, none⟩) (n.items.length + 1) cx) (n.items.length + 1) (n.items.flatMap itCells ++ [I 0, I 0]) → (((W.setCell ⟨g, i * 11 + 10, none⟩ (I n.puts)).setCell ⟨L.tb, 8 + v * 21 + 18, none⟩ (I (n.puts + 1))).alloc (.cells #[I 0, I 0] 135)).grownBy w' (Value.slice ao n.items.length ic).ownBlock → ((Value.slice ao n.items.length ic).ownBlock = some gx ∨ gx = W.heap.size + 1) →
      PF w B L v i g ((w'.setCell ⟨L.tb, 8 + v * 21 + 20, none⟩ (.slice (some ⟨gx, 0, none⟩) (n.items.length + 1) cx)).setCell ⟨g, i * 11 + 3, none⟩ (I 13)) { n with puts := n.puts + 1, iv := .slice (some ⟨gx, 0, none⟩) (n.items.length + 1) cx, items := n.items ++ [(0, 0)] } { q with ticket := n.puts, phase := 13 }) := by
    intro w' gx cx a1 a2 a3
    rw [← e1'] at a2 a3
    have := h1.pushI hba (y := (0, 0)) a1 a2 (by rw [hsz]; exact a3)
    exact this.setQ 3 (by omega) (I 13) _ rfl
  have hB' : B ≤ W.heap.size + 1 := by omega
  clear hrow hba h1 h2 e1' i1 i2 i3 i4 h e1 hk hsz
  obtain ⟨i0, hi0, hz0, hz1, hz2⟩ := info_parts Try.info135
  generalize n.items.length = il at *
  go_enter Try.func132, Try.ntmps132
  go_wp2_with (at_builtin; go_must (refine wpList_append_lies _ rfl (.tmp 63) (.tmp 65) 72 rfl B 135 i0 _ 2 16 Try.underlying72 hi0 hz0 hz1 hz2 rfl (by decide) _ _ _ rfl HO.out ⟨W.heap.size, 0, none⟩ 1 1 [I 0, I 0] rfl rfl HN.out ?c2 (by decide) ?c3 ?c4 ?c5 (W.heap.size + 1) ?c6 ?_))
  case c2 => rfl
  case c3 => unfold maxLen; omega
  case c4 => omega
  intro gx cx w4 ho4 hg4 hl4 _
  obtain ⟨⟨cc1, cc2⟩, cc3, cc4⟩ := HC.out _ hg4
  have hfin := HP.out _ _ _ ho4 hg4 hl4
  replace hfin : Hid _ := hfin
  clear hg4 ho4 hl4 HP HC HN HO c0 c3 c4 c7 c10 d18 d20 p1 fz fn
  go_wp2
  go_end0
  exact ⟨rfl, _, hfin.out⟩
end

end Go.Proofs.Ytjnmpejcegmkhaa
