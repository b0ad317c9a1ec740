/- The contract of the program's New. A new tree of the program and a new tree of the document's answer tell the same. No statement of the seat is proved here. -/
import Derived.Test.YtjnmpejcegmkhaaProgA
import Derived.Test.YtjnmpejcegmkhaaRefA
import Derived.Test.YtjnmpejcegmkhaaRefB
namespace Go.Proofs.Ytjnmpejcegmkhaa
open Go.RowKit

structure PNew (c : Conf) (L : PLay) : Prop where
  conf : L.c = c
  procs : L.procs = []
  nodes : ∀ v, 1 ≤ v → v < 32 → L.nodes.getD v zeroPN = newPN (2 ^ c.start.toNat) v

def zTail : List Value := (List.replicate 32 zeroPN).flatMap pnCells ++ [Value.slice none 0 0]
theorem zTail_tree (b : Nat) (c : Conf) : pTree ⟨b, c, List.replicate 32 zeroPN, .slice none 0 0, []⟩ = pConf c ++ zTail := rfl

theorem zero_cells : Try.zeroCells78 = (pTree ⟨0, ⟨0, 0, 0, 0, 0, 0, 0, 0⟩, List.replicate 32 zeroPN, .slice none 0 0, []⟩).toArray := by kernel_rfl

theorem zero_set (c : Conf) : ((((((((Try.zeroCells78.setIfInBounds 0 (I c.kind)).setIfInBounds 1 (I c.depth)).setIfInBounds 2 (I c.start)).setIfInBounds 3 (I c.slots)).setIfInBounds 4 (I c.width)).setIfInBounds 5 (I c.spin)).setIfInBounds 6 (I c.drain)).setIfInBounds 7 (I c.procs)) = (pConf c ++ zTail).toArray := by
  rw [zero_cells, zTail_tree]
  generalize zTail = r
  simp only [List.setIfInBounds_toArray, pConf, List.cons_append, List.nil_append, List.set_cons_zero, List.set_cons_succ]

set_option maxHeartbeats 4000000 in
theorem pnew_no (c : Conf) (w : World) (h : mayC c = false) : Calls Try.prog 36 #[confV c] w fun e w' => e = .returned (.tuple #[.pointer none, I 1]) ∧ Below w.heap.size w w' := by
  have hm := isConfig_c c (w.alloc (.cells #[I c.kind, I c.depth, I c.start, I c.slots, I c.width, I c.spin, I c.drain, I c.procs] 23))
  rw [h] at hm
  unfold confV at hm ⊢
  clear h
  go_enter Try.func36, Try.ntmps36
  go_wp2_with fail
  refine hm.mono ?_
  rintro e w1 ⟨rfl, hb1⟩
  go_wp2_with fail
  go_ret2
  exact ⟨rfl, ((Below.refl _ _).alloc (Nat.le_refl _) _).trans (hb1.mono (by simp))⟩

set_option maxHeartbeats 4000000 in
theorem pnew_yes (c : Conf) (w : World) (h : mayC c = true) : Calls Try.prog 36 #[confV c] w fun e w' => ∃ L, e = .returned (.tuple #[.pointer (some ⟨L.tb, 0, none⟩), I 0]) ∧ PRep w' w.heap.size L ∧ PNew c L ∧ Below w.heap.size w w' := by
  have hm := isConfig_c c (w.alloc (.cells #[I c.kind, I c.depth, I c.start, I c.slots, I c.width, I c.spin, I c.drain, I c.procs] 23))
  rw [h] at hm
  have hc : 0 ≤ c.start ∧ c.start ≤ 4 := by simp [mayC] at h; omega
  obtain ⟨s, hs⟩ := Int.eq_ofNat_of_zero_le hc.1
  have hs4 : s ≤ 4 := by omega
  have HS : Hid (c.start = s) := hs
  unfold confV at hm ⊢
  clear h hc hs
  go_enter Try.func36, Try.ntmps36
  go_wp2_with fail
  refine hm.mono ?_
  rintro e w1 ⟨rfl, hb1⟩
  have nb1 : w1.heap[w.heap.size]? = some (.cells #[I c.kind, I c.depth, I c.start, I c.slots, I c.width, I c.spin, I c.drain, I c.procs] 23 (0, 0)) := (hb1.block _ (by simp)).trans (nb_alloc _ _ _)
  have hb2 : Below w.heap.size w w1 := ((Below.refl _ _).alloc (Nat.le_refl _) _).trans (hb1.mono (by simp))
  clear hb1 hm
  obtain ⟨f1, _⟩ := nb_facts nb1
  go_wp2_with fail
  rw [zero_set c]
  have hrep : PRep (w1.alloc (.cells (pConf c ++ zTail).toArray 78)) w.heap.size ⟨w1.heap.size, c, List.replicate 32 zeroPN, .slice none 0 0, []⟩ := by
    refine ⟨by rw [zTail_tree]; exact nb_alloc _ _ _, hb2.size, List.length_replicate, World.ownsRow_nil _ _ _ _, fun v hv => ?_, fun u v hu hv g e1 _ => ?_⟩
    · simp only [List.getElem_replicate]
      exact World.ownsRow_nil _ _ _ _
    · simp only [List.getElem_replicate] at e1
      exact absurd e1 (by simp [zeroPN, Value.ownBlock])
  have hpl := plant_c hrep s HS.out hs4 rfl
  have hb3 := hb2.alloc hb2.size (.cells (pConf c ++ zTail).toArray 78)
  generalize w1.alloc (.cells (pConf c ++ zTail).toArray 78) = w2 at *
  refine hpl.mono ?_
  rintro e w3 ⟨rfl, ⟨L, hrep2, hm2⟩, hb4⟩
  clear f1 nb1 hrep hpl
  go_wp2
  go_ret2
  have htb : L.tb = w1.heap.size := hm2.tb
  exact ⟨L, by rw [htb]; rfl, hrep2, ⟨hm2.c, hm2.procs, fun v h1 h2 => by rw [hm2.nodes v h1 h2, if_pos h2, HS.out]; rfl⟩, hb3.trans hb4⟩

def newND (c : Conf) (v : Nat) : Option ND :=
  if v = 0 then none
  else if v < 2 ^ c.start.toNat then some ⟨v, Nat.log2 v, rank v, true, false, 0, 0, 1, List.replicate c.width.toNat (-1), 0, 0, []⟩
  else if v < 2 * 2 ^ c.start.toNat then some ⟨v, Nat.log2 v, rank v, false, false, 0, 0, 0, [], 0, 0, []⟩
  else none

theorem filterMap_range_more {α : Type} (f : Nat → Option α) (n m : Nat) (h : n ≤ m) (hf : ∀ v, n ≤ v → v < m → f v = none) : (List.range m).filterMap f = (List.range n).filterMap f := by
  induction m with
  | zero => have : n = 0 := by omega
            subst this; rfl
  | succ m ih =>
    by_cases e : n = m + 1
    · subst e; rfl
    · rw [List.range_succ, List.filterMap_append, ih (by omega) (fun v h1 h2 => hf v h1 (by omega))]
      simp [hf m (by omega) (by omega)]

theorem filterMap_range_congr {α : Type} (f g : Nat → Option α) (n : Nat) (h : ∀ v, v < n → f v = g v) : (List.range n).filterMap f = (List.range n).filterMap g := by
  induction n with
  | zero => rfl
  | succ n ih =>
    rw [List.range_succ, List.filterMap_append, List.filterMap_append, ih (fun v hv => h v (by omega))]
    simp only [List.filterMap_cons, List.filterMap_nil, h n (by omega)]

theorem whoTo_new (n : PN) (h0 : n.s0.st = 0) (h1 : n.s1.st = 0) (h2 : n.s2.st = 0) (h3 : n.s3.st = 0) (k : Nat) : whoTo n.st n.wh k = List.replicate k (-1) := by
  have hst : ∀ j, n.st j = 0 := by
    intro j
    unfold PN.st PN.slot
    split <;> assumption
  unfold whoTo
  rw [List.eq_replicate_iff]
  refine ⟨by simp, fun b hb => ?_⟩
  simp only [List.mem_map] at hb
  obtain ⟨j, _, rfl⟩ := hb
  simp [whoAt, hst]

theorem waitTo_new (v : Int) (k : Nat) : waitTo v [] k = List.replicate k (-1) := by
  unfold waitTo
  rw [List.eq_replicate_iff]
  refine ⟨by simp, fun b hb => ?_⟩
  simp only [List.mem_map] at hb
  obtain ⟨j, _, rfl⟩ := hb
  rfl

theorem pnodes_new {c : Conf} {L : PLay} (h : PNew c L) : pnodes L = (List.range 32).filterMap (newND c) := by
  unfold pnodes pnodesTo
  refine filterMap_range_congr _ _ _ fun v hv => ?_
  by_cases h0 : v = 0
  · subst h0; simp [newND]
  · have hn := h.nodes v (by omega) hv
    rw [hn]
    simp only [h0, false_or, newPN, newND, if_false]
    by_cases h1 : v < 2 ^ c.start.toNat
    · simp only [h1, if_true]
      simp only [innerPN, Bool.true_eq_false, if_false, pnode, if_true, h.conf]
      rw [show whoTo (PN.st ⟨true, true, false, 0, 0, 1, zeroSL, zeroSL, zeroSL, zeroSL, 0, 0, .slice none 0 0, []⟩) (PN.wh ⟨true, true, false, 0, 0, 1, zeroSL, zeroSL, zeroSL, zeroSL, 0, 0, .slice none 0 0, []⟩) c.width.toNat = List.replicate c.width.toNat (-1) from whoTo_new _ rfl rfl rfl rfl _]
    · simp only [h1, if_false]
      by_cases h2 : v < 2 * 2 ^ c.start.toNat
      · simp [h2, leafPN, pnode, pvals]
      · simp [h2, zeroPN]

theorem rnodes_new {c : Conf} {L : Lay} (h : NewLay c L) (hm : mayC c = true) : rnodes L = (List.range 32).filterMap (newND c) := by
  have hc : 0 ≤ c.start ∧ c.start ≤ c.depth ∧ c.depth ≤ 4 := by simp [mayC] at hm; omega
  obtain ⟨s, hs⟩ := Int.eq_ofNat_of_zero_le hc.1
  obtain ⟨d, hd⟩ := Int.eq_ofNat_of_zero_le (by omega : 0 ≤ c.depth)
  have hsd : s ≤ d := by omega
  have hd4 : d ≤ 4 := by omega
  have hlen : L.past.length = 2 ^ (d + 1) := by rw [h.len, hd]; rfl
  have hle : 2 ^ (d + 1) ≤ 32 := Nat.le_trans (Nat.pow_le_pow_right (by omega) (by omega : d + 1 ≤ 5)) (by decide)
  have hss : c.start.toNat = s := by omega
  have hs2 : 2 * 2 ^ s ≤ 2 ^ (d + 1) := by
    have : 2 ^ s ≤ 2 ^ d := Nat.pow_le_pow_right (by omega) hsd
    rw [Nat.pow_succ]; omega
  unfold rnodes rnodesTo
  rw [hlen, filterMap_range_more (newND c) (2 ^ (d + 1)) 32 hle (fun v h1 h2 => by
    have : ¬ v < 2 ^ s := by omega
    simp only [newND, hss]
    rw [if_neg (by have := Nat.two_pow_pos (d + 1); omega), if_neg this, if_neg (by omega)])]
  refine filterMap_range_congr _ _ _ fun v hv => ?_
  by_cases h0 : v = 0
  · subst h0; simp [newND]
  · have hh := h.hist v (by omega) (by omega)
    have l1 : Nat.log2 v < s ↔ v < 2 ^ s := Nat.log2_lt h0
    have l2 : Nat.log2 v < s + 1 ↔ v < 2 ^ (s + 1) := Nat.log2_lt h0
    rw [Nat.pow_succ] at l2
    simp only [h0, false_or, newND, hss, if_false]
    simp only [rnode, hh, h.procs, h.conf]
    by_cases c1 : v < 2 ^ s
    · have : ((Nat.log2 v : Nat) : Int) < c.start := by have := l1.2 c1; omega
      have e : newHist c.start v = [(⟨1, 0, 0, []⟩, .slice none 0 0)] := by simp [newHist, this]
      rw [e]
      simp [c1, formH, fromH, manyH, widthH, shutL, insideL, waitTo_new]
    · by_cases c2 : v < 2 * 2 ^ s
      · have : ((Nat.log2 v : Nat) : Int) = c.start := by
          have h1 : ¬ Nat.log2 v < s := fun h => c1 (l1.1 h)
          have h2 := l2.2 (by omega)
          omega
        have e : newHist c.start v = [(⟨2, 0, 0, []⟩, .slice none 0 0)] := by simp [newHist, this]
        rw [e]
        simp [c1, c2, formH, fromH, manyH, shutL, insideL, putsH, itemsH, itemsTo]
      · have h2 : ¬ Nat.log2 v < s + 1 := fun h => c2 (by have := l2.1 h; omega)
        have e : newHist c.start v = [] := by
          unfold newHist
          rw [if_neg (by omega), if_neg (by omega)]
        rw [e]
        simp [c1, c2, formH]

theorem newLay_ok {c : Conf} {L : Lay} (h : NewLay c L) (hm : mayC c = true) : L.Ok := by
  have hc : 0 ≤ c.depth ∧ c.depth ≤ 4 ∧ 1 ≤ c.width ∧ c.width ≤ 4 := by simp [mayC] at hm; omega
  have hlen := h.len
  have hle : 2 ^ (c.depth.toNat + 1) ≤ 32 := Nat.le_trans (Nat.pow_le_pow_right (by omega) (by omega : c.depth.toNat + 1 ≤ 5)) (by decide)
  have key : ∀ v, v < L.past.length → (fromH (L.hist v)).1.n = 0 ∧ putsH (L.hist v) = 0 ∧ manyH 4 (-1) (L.hist v) = 0 := by
    intro v hv
    by_cases h0 : v = 0
    · subst h0; rw [h.hist0]; simp [fromH, putsH, manyH]
    · rw [h.hist v (by omega) hv]
      unfold newHist
      split
      · simp [fromH, putsH, manyH]
      · split <;> simp [fromH, putsH, manyH]
  refine ⟨by rw [h.procs]; simp, by rw [hlen]; omega, by rw [h.conf]; omega, by rw [h.conf]; omega, ?_, fun v hv => by rw [(key v hv).1]; omega, fun v hv => by rw [(key v hv).2.1]; omega, fun v hv => by rw [(key v hv).2.2]; omega⟩
  intro i hi
  rw [h.procs] at hi
  simp at hi

theorem new_agree {c : Conf} {w : World} {B B' : Nat} {L : Lay} {P : PLay} (hm : mayC c = true) (hl : NewLay c L) (hp : PNew c P) (hr : PRep w B P) (_h : RefRep w B' L) : Agree w (.pointer (some ⟨P.tb, 0, none⟩)) L where
  nodes := fun W hW => by
    have hc : 1 ≤ c.width ∧ c.width ≤ 4 := by simp [mayC] at hm; omega
    rw [rnodes_new hl hm, ← pnodes_new hp]
    refine pnodes_c (hr.below hW) (by rw [hp.conf]; omega) (by rw [hp.conf]; omega) ?_
    intro v h1 hv
    have := hp.nodes v h1 (by rw [hr.len] at hv; exact hv)
    rw [List.getD_eq_getElem?_getD, List.getElem?_eq_getElem hv] at this
    simp only [Option.getD_some] at this
    rw [this]
    unfold newPN
    split
    · simp [innerPN]
    · split <;> simp [leafPN, zeroPN]
  proc := fun W hW p => by
    have e : procV L p = pprocV P p := by simp [procV, pprocV, hl.procs, hp.procs, zeroPP]
    rw [e]
    exact pproc_c (hr.below hW) p

end Go.Proofs.Ytjnmpejcegmkhaa
