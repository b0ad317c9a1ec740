/- The nodes that are told are a tree. No statement of the seat is proved here. The contract of package prismkeep's refusal. No statement of the seat is proved here. The contract of package prismkeep's refusal, of any operation. No statement of the seat is proved here. What a hand is behind a Spawn; the contract of package prismkeep's spawn. No statement of the seat is proved here. The contract of package prismkeep's spawn, of an Inc, a Put or a Get. No statement of the seat is proved here. The contract of package prismkeep's spawn, where the tree takes it. No statement of the seat is proved here. The contract of package prismkeep's spawn, of any operation. No statement of the seat is proved here. Contracts of package prismkeep's among and behind. No statement of the seat is proved here. The contract of package prismkeep's step, where a process that is live steps. No statement of the seat is proved here. The contract of package prismkeep's step, whoever steps. No statement of the seat is proved here. The contract of package prismkeep's rest. No statement of the seat is proved here. Rest, of the program and of the document: both take the same steps. Rest of the document. No statement of the seat is proved here. What one Step of the document's tree does: to the process that steps, to the others, to the nodes. No statement of the seat is proved here. A hand and the document's tree beside it, in no memory: the contract of package prismkeep's spawn, step, rest and play. No statement of the seat is proved here. A new hand. No statement of the seat is proved here. -/
import Derived.Test.YtjnmpejcegmkhabRefStA
import Derived.Test.YtjnmpejcegmkhabDBoth
import Derived.Deep.QuietTactic
import Derived.BigQuiet
import Derived.Test.YtjnmpejcegmkhabCInv
import Derived.Deep.RegionLaw
import Derived.Deep.AppendLies
import Derived.Deep.RegionWith
import Derived.Deep.DeepCutAuto
import Derived.Test.YtjnmpejcegmkhabRefB
namespace Go.Proofs.Ytjnmpejcegmkhab
open Go.RowKit

def tN (f : Nat → Bool) : Nat → Nat
  | 0 => 0
  | k + 1 => tN f k + if f k then 1 else 0
theorem tN_pair (T J : Nat → Bool) (h0 : T 0 = false) (h1 : T 1 = true) (hJ : J 0 = false) : ∀ m, (∀ k, 1 ≤ k → k < m → T (2 * k) = J k ∧ T (2 * k + 1) = J k) → 1 ≤ m → tN T (2 * m) = 1 + 2 * tN J m
  | 0, _, h => by omega
  | 1, _, _ => by simp [tN, h0, h1, hJ]
  | m + 2, hk, _ => by
    have ih := tN_pair T J h0 h1 hJ (m + 1) (fun k a b => hk k a (by omega)) (by omega)
    obtain ⟨e1, e2⟩ := hk (m + 1) (by omega) (by omega)
    have e : 2 * (m + 2) = 2 * (m + 1) + 1 + 1 := by omega
    rw [e]
    simp only [tN] at ih ⊢
    rw [e1, e2, ih]
    omega
theorem tN_ext (f : Nat → Bool) (m : Nat) : ∀ k, m ≤ k → (∀ j, m ≤ j → j < k → f j = false) → tN f k = tN f m
  | 0, h, _ => by rw [show m = 0 by omega]
  | k + 1, h, hf => by
    by_cases e : m = k + 1
    · rw [e]
    · simp only [tN]
      rw [tN_ext f m k (by omega) (fun j a b => hf j a (by omega)), hf k (by omega) (by omega)]
      simp

def isV (L : Lay) (v : Nat) : Prop := v ≠ 0 ∧ formH (L.hist v) ≠ 3
theorem rnodes_mem (L : Lay) : ∀ k (d : ND), d ∈ rnodesTo L k ↔ ∃ v, v < k ∧ isV L v ∧ d = rnode L v := by
  intro k d
  induction k with
  | zero => simp [rnodesTo]
  | succ k ih =>
    rw [rnodesTo_succ, List.mem_append, ih]
    constructor
    · rintro (⟨v, a, b⟩ | h)
      · exact ⟨v, by omega, b⟩
      · split at h
        · simp at h
        · rename_i hn
          simp only [List.mem_cons, List.not_mem_nil, or_false] at h
          exact ⟨k, by omega, ⟨fun e => hn (Or.inl e), fun e => hn (Or.inr e)⟩, h⟩
    · rintro ⟨v, a, b, e⟩
      by_cases ev : v = k
      · right
        subst ev
        rw [if_neg (by rintro (x | x); exact b.1 x; exact b.2 x), e]
        simp
      · exact Or.inl ⟨v, by omega, b, e⟩
theorem rnode_num (L : Lay) (v : Nat) : (rnode L v).num = v ∧ (rnode L v).depth = (Nat.log2 v : Int) ∧ (rnode L v).rank = (rank v : Int) ∧ (rnode L v).inner = decide (formH (L.hist v) = 1) := by
  unfold rnode
  split
  · rename_i h; simp [h]
  · rename_i h; simp [h]
theorem rnodes_rise (L : Lay) : ∀ k, (rnodesTo L k).Pairwise fun a b => a.num < b.num
  | 0 => by simp [rnodesTo]
  | k + 1 => by
    rw [rnodesTo_succ, List.pairwise_append]
    refine ⟨rnodes_rise L k, ?_, fun a ha b hb => ?_⟩
    · split <;> simp
    · obtain ⟨v, hv, _, rfl⟩ := (rnodes_mem L k a).1 ha
      split at hb
      · simp at hb
      · simp only [List.mem_cons, List.not_mem_nil, or_false] at hb
        subst hb
        rw [(rnode_num L v).1, (rnode_num L k).1]
        omega
theorem rnodes_len (L : Lay) : ∀ k, (rnodesTo L k).length = tN (fun v => decide (v ≠ 0 ∧ formH (L.hist v) ≠ 3)) k
  | 0 => rfl
  | k + 1 => by
    rw [rnodesTo_succ, List.length_append, rnodes_len L k]
    simp only [tN]
    congr 1
    by_cases h : k = 0 ∨ formH (L.hist k) = 3
    · rw [if_pos h, if_neg]
      · rfl
      · simp only [decide_eq_true_eq]
        rintro ⟨a, b⟩
        rcases h with h | h
        · exact a h
        · exact b h
    · rw [if_neg h, if_pos]
      · rfl
      · simp only [decide_eq_true_eq]
        exact ⟨fun e => h (Or.inl e), fun e => h (Or.inr e)⟩
theorem rnodes_inn (L : Lay) : ∀ k, innN (rnodesTo L k) = tN (fun v => decide (v ≠ 0 ∧ formH (L.hist v) = 1)) k
  | 0 => rfl
  | k + 1 => by
    rw [rnodesTo_succ, innN_app, rnodes_inn L k]
    simp only [tN]
    congr 1
    by_cases h : k = 0 ∨ formH (L.hist k) = 3
    · rw [if_pos h, if_neg]
      · rfl
      · simp only [decide_eq_true_eq]
        rintro ⟨a, b⟩
        rcases h with h | h
        · exact a h
        · omega
    · rw [if_neg h]
      simp only [innN, (rnode_num L k).2.2.2, Nat.add_zero, decide_eq_true_eq]
      have : k ≠ 0 := fun e => h (Or.inl e)
      simp [this]

theorem findN_mem (v : Int) : ∀ (l : List Int) (i : Nat), v ∈ l → 0 ≤ findN v l i
  | [], _, h => by simp at h
  | x :: r, i, h => by
    unfold findN
    split
    · omega
    · rename_i hx
      refine findN_mem v r (i + 1) ?_
      rcases List.mem_cons.1 h with e | e
      · exact absurd e.symm hx
      · exact e

theorem CRel.shaped {c : Conf} {L : Lay} {P : PLay} (h : CRel c L P) : ShapedL c.depth.toNat (rnodes L) := by
  have hcf := h.rel.confs
  have hl := h.rel.lenle
  have hN := h.rel.len
  have hN' : L.past.length = 2 * 2 ^ c.depth.toNat := by rw [hN, Nat.pow_succ]; omega
  have hroot := h.rel.root
  have hform : ∀ v, 1 ≤ v → v < L.past.length → formH (L.hist v) = 1 ∨ formH (L.hist v) = 2 ∨ formH (L.hist v) = 3 := fun v a b => (h.rel.nodes v a b).form
  have h1 : isV L 1 := ⟨by omega, hroot⟩
  have hm1 : rnode L 1 ∈ rnodes L := (rnodes_mem L _ _).2 ⟨1, by omega, h1, rfl⟩
  have hpos : 0 < (rnodes L).length := List.length_pos_of_mem hm1
  have hnum : ∀ v, v < L.past.length → isV L v → (v : Int) ∈ (rnodes L).map fun d => d.num := by
    intro v a b
    exact List.mem_map.2 ⟨rnode L v, (rnodes_mem L _ _).2 ⟨v, a, b, rfl⟩, (rnode_num L v).1⟩
  have hev : ∀ i, (hi : i < (rnodes L).length) → ∃ v, v < L.past.length ∧ isV L v ∧ (rnodes L)[i] = rnode L v := fun i hi => (rnodes_mem L _ _).1 (List.getElem_mem hi)
  have hrise := List.pairwise_iff_getElem.1 (rnodes_rise L L.past.length)
  refine ⟨by omega, hpos, ?_, fun hp => ?_, fun i hi => ?_, fun i hi => ?_, fun i hi hin => ?_, ?_⟩
  · have := rnodesTo_le L L.past.length
    unfold rnodes
    omega
  · obtain ⟨v, a, b, e⟩ := hev 0 hp
    obtain ⟨j, hj, ej⟩ := List.getElem_of_mem hm1
    rw [e, (rnode_num L v).1]
    have e1 : ((rnodes L)[j]).num = 1 := by rw [ej, (rnode_num L 1).1]; rfl
    have e0 : ((rnodes L)[0]).num = v := by rw [e, (rnode_num L v).1]
    by_cases ej0 : j = 0
    · subst ej0
      omega
    · have := hrise 0 j hp hj (by omega)
      have hv := b.1
      have e0' : ((rnodesTo L L.past.length)[0]).num = v := e0
      have e1' : ((rnodesTo L L.past.length)[j]).num = 1 := e1
      omega
  · obtain ⟨v, a, b, e⟩ := hev i hi
    obtain ⟨x1, x2, x3, x4⟩ := rnode_num L v
    exact ⟨v, by rw [e, x1], by have := b.1; omega, by omega, by rw [e, x2], by rw [e, x3]⟩
  · exact hrise i (i + 1) (show i < (rnodes L).length by omega) hi (by omega)
  · obtain ⟨v, a, b, e⟩ := hev i hi
    obtain ⟨x1, x2, x3, x4⟩ := rnode_num L v
    rw [e] at hin ⊢
    rw [x4] at hin
    have hf := of_decide_eq_true hin
    obtain ⟨k1, k2, k3⟩ := h.rel.kids v (by have := b.1; omega) a hf
    rw [x1]
    refine ⟨findN_mem _ _ _ ?_, findN_mem _ _ _ ?_⟩
    · have := hnum (2 * v) (by omega) ⟨by have := b.1; omega, k2⟩
      push_cast at this
      exact this
    · have := hnum (2 * v + 1) (by omega) ⟨by omega, k3⟩
      push_cast at this
      exact this
  · show 1 + 2 * innN (rnodesTo L L.past.length) = (rnodesTo L L.past.length).length
    rw [rnodes_len, rnodes_inn]
    have hp := tN_pair (fun v => decide (v ≠ 0 ∧ formH (L.hist v) ≠ 3)) (fun v => decide (v ≠ 0 ∧ formH (L.hist v) = 1)) (by simp) (by simp [hroot]) (by simp) (2 ^ c.depth.toNat) ?_ Nat.one_le_two_pow
    · rw [hN', hp]
      congr 2
      refine tN_ext _ _ _ (by omega) fun j a b => ?_
      simp only [decide_eq_false_iff_not]
      rintro ⟨j0, jf⟩
      have := (h.rel.kids j (by omega) (by omega) jf).1
      omega
    · intro k k1 k2
      have hkN : 2 * k + 1 < L.past.length := by omega
      have key : ∀ u, u / 2 = k → 2 ≤ u → u < L.past.length → (formH (L.hist k) = 1 → formH (L.hist u) ≠ 3) → decide (u ≠ 0 ∧ formH (L.hist u) ≠ 3) = decide (k ≠ 0 ∧ formH (L.hist k) = 1) := by
        intro u eu u2 uN hku
        refine decide_eq_decide.2 ⟨?_, ?_⟩
        · rintro ⟨_, b⟩
          have := h.ck.ci.par u u2 uN b
          rw [eu] at this
          exact ⟨by omega, this⟩
        · rintro ⟨_, b⟩
          exact ⟨by omega, hku b⟩
      exact ⟨key (2 * k) (by omega) (by omega) (by omega) fun f => (h.rel.kids k k1 (by omega) f).2.1, key (2 * k + 1) (by omega) (by omega) (by omega) fun f => (h.rel.kids k k1 (by omega) f).2.2⟩

end Go.Proofs.Ytjnmpejcegmkhab

namespace Go.Proofs.Ytjnmpejcegmkhab
open Go.RowKit

/-- Whether a tree of this kind has this kind of operation (Inc, Put, Get). -/
def okW (ck kd : Int) : Bool := decide ((kd = 0 ∧ ck = 0) ∨ ((kd = 1 ∨ kd = 2) ∧ ck = 1))
/-- What Spawn of an Inc, a Put or a Get must answer. -/
def refusalW (P : PLay) (kd : Int) : Int := if okW P.c.kind kd = false then 2 else if 256 ≤ P.procs.length then 3 else if P.c.procs ≤ (pliveL P.procs : Int) then 4 else 0

theorem KRep.conf {w : World} {B hb : Nat} {P : PLay} {ops : List Op3} {went : List Bool} (h : KRep w B hb P ops went) : w.cell? ⟨hb, 1, none⟩ = some (I P.c.kind) ∧ w.cell? ⟨hb, 2, none⟩ = some (I P.c.depth) ∧ w.cell? ⟨hb, 8, none⟩ = some (I P.c.procs) ∧ ∃ ao cap, w.cell? ⟨hb, 9, none⟩ = some (.slice ao ops.length cap) ∧ ops.length ≤ cap ∧ ops.length ≤ maxLen ∧ cap ≤ maxLen := by
  obtain ⟨ov, wv, a, b, _⟩ := h.blk
  obtain ⟨ao, cap, e1, q1, q2, q3, _⟩ := ownsRow_cells b
  refine ⟨by rw [(nb_facts a).1 1]; rfl, by rw [(nb_facts a).1 2]; rfl, by rw [(nb_facts a).1 8]; rfl, ao, cap, ?_, q1, q2, q3⟩
  rw [(nb_facts a).1 9, ← e1]
  rfl

set_option maxHeartbeats 4000000 in
set_option maxRecDepth 100000 in
theorem krefusal_walk {w : World} {B hb : Nat} {P : PLay} {ops : List Op3} {went : List Bool} (h : KRep w B hb P ops went) (kd vl nd : Int) (hk : kd = 0 ∨ kd = 1 ∨ kd = 2) :
    Calls Try.prog 48 #[.pointer (some ⟨hb, 0, none⟩), .agg #[I kd, I vl, I nd]] w fun e w' => e = .returned (I (refusalW P kd)) ∧ Below w.heap.size w w' := by
  have hlv := fun W (hw : Below w.heap.size w W) => klive_c (h.below hw)
  obtain ⟨c1, c2, c8, ao, cap, c9, q1, q2, q3⟩ := h.conf
  have hlen := h.len
  rw [hlen] at c9 q1 q2
  have HF : Hid (∀ W, Below w.heap.size w W → W.cell? ⟨hb, 8, none⟩ = some (I P.c.procs) ∧ W.cell? ⟨hb, 9, none⟩ = some (.slice ao P.procs.length cap)) := fun W hw => ⟨(hw.cell (p := ⟨hb, 8, none⟩) (cell_lt c8)).trans c8, (hw.cell (p := ⟨hb, 9, none⟩) (cell_lt c9)).trans c9⟩
  have l0 := cell_lt c1
  unfold maxLen at q2 q3
  have HRF : Hid (∀ kd, refusalW P kd = if okW P.c.kind kd = false then 2 else if 256 ≤ P.procs.length then 3 else if P.c.procs ≤ (pliveL P.procs : Int) then 4 else 0) := fun _ => rfl
  generalize pliveL P.procs = lv at *
  generalize P.procs.length = np at *
  generalize P.c.kind = ck at *
  generalize P.c.procs = cp at *
  replace hlv : Hid _ := hlv
  clear h hlen
  rcases hk with rfl | rfl | rfl
  · by_cases hc : ck = 0
    · have bc : (ck == 0) = true := by simp [hc]
      have HR : Hid (refusalW P 0 = if 256 ≤ np then 3 else if cp ≤ (lv : Int) then 4 else 0) := by show _ = _; rw [HRF.out 0]; simp [okW, hc]
      rw [HR.out]
      clear HRF hc
      by_cases h3 : 256 ≤ np
      · rw [if_pos h3]
        have hi3 : decide ((256 : Int) ≤ (np : Int)) = true := by simp; omega
        clear h3
        go_enter Try.func48, Try.ntmps48
        go_wp2_with fail
        refine Calls.mono (hlv.out _ ((Below.refl _ _).alloc (Nat.le_refl _) _)) ?_
        rintro e w1 ⟨rfl, hb1⟩
        have hb2 : Below w.heap.size w w1 := ((Below.refl _ _).alloc (Nat.le_refl _) _).trans (hb1.mono (by simp))
        obtain ⟨g8, g9⟩ := HF.out w1 hb2
        clear hb1 c8 c9 HF
        go_wp2
        go_ret
        exact ⟨rfl, hb2⟩
      · rw [if_neg h3]
        have hd3 : decide ((256 : Int) ≤ (np : Int)) = false := by simp; omega
        clear h3
        by_cases h4 : cp ≤ (lv : Int)
        · rw [if_pos h4]
          go_enter Try.func48, Try.ntmps48
          go_wp2_with fail
          refine Calls.mono (hlv.out _ ((Below.refl _ _).alloc (Nat.le_refl _) _)) ?_
          rintro e w1 ⟨rfl, hb1⟩
          have hb2 : Below w.heap.size w w1 := ((Below.refl _ _).alloc (Nat.le_refl _) _).trans (hb1.mono (by simp))
          obtain ⟨g8, g9⟩ := HF.out w1 hb2
          clear hb1 c8 c9 HF
          go_wp2
          go_ret
          exact ⟨rfl, hb2⟩
        · rw [if_neg h4]
          have hd4 : decide (cp ≤ (lv : Int)) = false := by simp; omega
          go_enter Try.func48, Try.ntmps48
          go_wp2_with fail
          refine Calls.mono (hlv.out _ ((Below.refl _ _).alloc (Nat.le_refl _) _)) ?_
          rintro e w1 ⟨rfl, hb1⟩
          have hb2 : Below w.heap.size w w1 := ((Below.refl _ _).alloc (Nat.le_refl _) _).trans (hb1.mono (by simp))
          obtain ⟨g8, g9⟩ := HF.out w1 hb2
          clear hb1 c8 c9 HF
          go_wp2
          go_ret
          exact ⟨rfl, hb2⟩
    · have bc : (ck == 0) = false := by simp [hc]
      have HR : Hid (refusalW P 0 = 2) := by show _ = _; rw [HRF.out 0]; simp [okW, hc]
      rw [HR.out]
      clear HRF hc
      go_enter Try.func48, Try.ntmps48
      go_wp2_with fail
      refine Calls.mono (hlv.out _ ((Below.refl _ _).alloc (Nat.le_refl _) _)) ?_
      rintro e w1 ⟨rfl, hb1⟩
      have hb2 : Below w.heap.size w w1 := ((Below.refl _ _).alloc (Nat.le_refl _) _).trans (hb1.mono (by simp))
      obtain ⟨g8, g9⟩ := HF.out w1 hb2
      clear hb1 c8 c9 HF
      go_wp2
      go_ret
      exact ⟨rfl, hb2⟩
  · by_cases hc : ck = 1
    · have bc : (ck == 1) = true := by simp [hc]
      have HR : Hid (refusalW P 1 = if 256 ≤ np then 3 else if cp ≤ (lv : Int) then 4 else 0) := by show _ = _; rw [HRF.out 1]; simp [okW, hc]
      rw [HR.out]
      clear HRF hc
      by_cases h3 : 256 ≤ np
      · rw [if_pos h3]
        have hi3 : decide ((256 : Int) ≤ (np : Int)) = true := by simp; omega
        clear h3
        go_enter Try.func48, Try.ntmps48
        go_wp2_with fail
        refine Calls.mono (hlv.out _ ((Below.refl _ _).alloc (Nat.le_refl _) _)) ?_
        rintro e w1 ⟨rfl, hb1⟩
        have hb2 : Below w.heap.size w w1 := ((Below.refl _ _).alloc (Nat.le_refl _) _).trans (hb1.mono (by simp))
        obtain ⟨g8, g9⟩ := HF.out w1 hb2
        clear hb1 c8 c9 HF
        go_wp2
        go_ret
        exact ⟨rfl, hb2⟩
      · rw [if_neg h3]
        have hd3 : decide ((256 : Int) ≤ (np : Int)) = false := by simp; omega
        clear h3
        by_cases h4 : cp ≤ (lv : Int)
        · rw [if_pos h4]
          go_enter Try.func48, Try.ntmps48
          go_wp2_with fail
          refine Calls.mono (hlv.out _ ((Below.refl _ _).alloc (Nat.le_refl _) _)) ?_
          rintro e w1 ⟨rfl, hb1⟩
          have hb2 : Below w.heap.size w w1 := ((Below.refl _ _).alloc (Nat.le_refl _) _).trans (hb1.mono (by simp))
          obtain ⟨g8, g9⟩ := HF.out w1 hb2
          clear hb1 c8 c9 HF
          go_wp2
          go_ret
          exact ⟨rfl, hb2⟩
        · rw [if_neg h4]
          have hd4 : decide (cp ≤ (lv : Int)) = false := by simp; omega
          go_enter Try.func48, Try.ntmps48
          go_wp2_with fail
          refine Calls.mono (hlv.out _ ((Below.refl _ _).alloc (Nat.le_refl _) _)) ?_
          rintro e w1 ⟨rfl, hb1⟩
          have hb2 : Below w.heap.size w w1 := ((Below.refl _ _).alloc (Nat.le_refl _) _).trans (hb1.mono (by simp))
          obtain ⟨g8, g9⟩ := HF.out w1 hb2
          clear hb1 c8 c9 HF
          go_wp2
          go_ret
          exact ⟨rfl, hb2⟩
    · have bc : (ck == 1) = false := by simp [hc]
      have HR : Hid (refusalW P 1 = 2) := by show _ = _; rw [HRF.out 1]; simp [okW, hc]
      rw [HR.out]
      clear HRF hc
      go_enter Try.func48, Try.ntmps48
      go_wp2_with fail
      refine Calls.mono (hlv.out _ ((Below.refl _ _).alloc (Nat.le_refl _) _)) ?_
      rintro e w1 ⟨rfl, hb1⟩
      have hb2 : Below w.heap.size w w1 := ((Below.refl _ _).alloc (Nat.le_refl _) _).trans (hb1.mono (by simp))
      obtain ⟨g8, g9⟩ := HF.out w1 hb2
      clear hb1 c8 c9 HF
      go_wp2
      go_ret
      exact ⟨rfl, hb2⟩
  · by_cases hc : ck = 1
    · have bc : (ck == 1) = true := by simp [hc]
      have HR : Hid (refusalW P 2 = if 256 ≤ np then 3 else if cp ≤ (lv : Int) then 4 else 0) := by show _ = _; rw [HRF.out 2]; simp [okW, hc]
      rw [HR.out]
      clear HRF hc
      by_cases h3 : 256 ≤ np
      · rw [if_pos h3]
        have hi3 : decide ((256 : Int) ≤ (np : Int)) = true := by simp; omega
        clear h3
        go_enter Try.func48, Try.ntmps48
        go_wp2_with fail
        refine Calls.mono (hlv.out _ ((Below.refl _ _).alloc (Nat.le_refl _) _)) ?_
        rintro e w1 ⟨rfl, hb1⟩
        have hb2 : Below w.heap.size w w1 := ((Below.refl _ _).alloc (Nat.le_refl _) _).trans (hb1.mono (by simp))
        obtain ⟨g8, g9⟩ := HF.out w1 hb2
        clear hb1 c8 c9 HF
        go_wp2
        go_ret
        exact ⟨rfl, hb2⟩
      · rw [if_neg h3]
        have hd3 : decide ((256 : Int) ≤ (np : Int)) = false := by simp; omega
        clear h3
        by_cases h4 : cp ≤ (lv : Int)
        · rw [if_pos h4]
          go_enter Try.func48, Try.ntmps48
          go_wp2_with fail
          refine Calls.mono (hlv.out _ ((Below.refl _ _).alloc (Nat.le_refl _) _)) ?_
          rintro e w1 ⟨rfl, hb1⟩
          have hb2 : Below w.heap.size w w1 := ((Below.refl _ _).alloc (Nat.le_refl _) _).trans (hb1.mono (by simp))
          obtain ⟨g8, g9⟩ := HF.out w1 hb2
          clear hb1 c8 c9 HF
          go_wp2
          go_ret
          exact ⟨rfl, hb2⟩
        · rw [if_neg h4]
          have hd4 : decide (cp ≤ (lv : Int)) = false := by simp; omega
          go_enter Try.func48, Try.ntmps48
          go_wp2_with fail
          refine Calls.mono (hlv.out _ ((Below.refl _ _).alloc (Nat.le_refl _) _)) ?_
          rintro e w1 ⟨rfl, hb1⟩
          have hb2 : Below w.heap.size w w1 := ((Below.refl _ _).alloc (Nat.le_refl _) _).trans (hb1.mono (by simp))
          obtain ⟨g8, g9⟩ := HF.out w1 hb2
          clear hb1 c8 c9 HF
          go_wp2
          go_ret
          exact ⟨rfl, hb2⟩
    · have bc : (ck == 1) = false := by simp [hc]
      have HR : Hid (refusalW P 2 = 2) := by show _ = _; rw [HRF.out 2]; simp [okW, hc]
      rw [HR.out]
      clear HRF hc
      go_enter Try.func48, Try.ntmps48
      go_wp2_with fail
      refine Calls.mono (hlv.out _ ((Below.refl _ _).alloc (Nat.le_refl _) _)) ?_
      rintro e w1 ⟨rfl, hb1⟩
      have hb2 : Below w.heap.size w w1 := ((Below.refl _ _).alloc (Nat.le_refl _) _).trans (hb1.mono (by simp))
      obtain ⟨g8, g9⟩ := HF.out w1 hb2
      clear hb1 c8 c9 HF
      go_wp2
      go_ret
      exact ⟨rfl, hb2⟩

end Go.Proofs.Ytjnmpejcegmkhab

namespace Go.Proofs.Ytjnmpejcegmkhab
open Go.RowKit

def okOpDec (c : Conf) (o : Op3) : Decidable (okOp c o) := by unfold okOp; exact inferInstance
/-- What Spawn must answer. -/
def refusalK (P : PLay) (o : Op3) : Int := letI := okOpDec P.c o; if ¬ okOp P.c o then 2 else if 256 ≤ P.procs.length then 3 else if P.c.procs ≤ (pliveL P.procs : Int) then 4 else 0

set_option maxHeartbeats 4000000 in
set_option maxRecDepth 100000 in
theorem krefusal_chg {w : World} {B hb : Nat} {P : PLay} {ops : List Op3} {went : List Bool} (h : KRep w B hb P ops went) (kd vl nd : Int) (hk : kd = 3 ∨ kd = 4) (hd0 : 0 ≤ P.c.depth) (hd4 : P.c.depth ≤ 4) :
    Calls Try.prog 48 #[.pointer (some ⟨hb, 0, none⟩), .agg #[I kd, I vl, I nd]] w fun e w' => e = .returned (I (refusalK P ⟨kd, vl, nd⟩)) ∧ Below w.heap.size w w' := by
  have hlv := fun W (hw : Below w.heap.size w W) => klive_c (h.below hw)
  obtain ⟨c1, c2, c8, ao, cap, c9, q1, q2, q3⟩ := h.conf
  have hlen := h.len
  rw [hlen] at c9 q1 q2
  have HF : Hid (∀ W, Below w.heap.size w W → W.cell? ⟨hb, 8, none⟩ = some (I P.c.procs) ∧ W.cell? ⟨hb, 9, none⟩ = some (.slice ao P.procs.length cap)) := fun W hw => ⟨(hw.cell (p := ⟨hb, 8, none⟩) (cell_lt c8)).trans c8, (hw.cell (p := ⟨hb, 9, none⟩) (cell_lt c9)).trans c9⟩
  have l0 := cell_lt c1
  unfold maxLen at q2 q3
  have HRF0 : refusalK P ⟨kd, vl, nd⟩ = (letI := okOpDec P.c ⟨kd, vl, nd⟩; if ¬ okOp P.c ⟨kd, vl, nd⟩ then 2 else if 256 ≤ P.procs.length then 3 else if P.c.procs ≤ (pliveL P.procs : Int) then 4 else 0) := rfl
  generalize refusalK P ⟨kd, vl, nd⟩ = rk at *
  have HOK : Hid (decide (1 ≤ nd ∧ nd ≤ ((2 ^ P.c.depth.toNat : Nat) : Int) - 1) = (letI := okOpDec P.c ⟨kd, vl, nd⟩; decide (okOp P.c ⟨kd, vl, nd⟩))) := by
    show _ = _
    refine decide_eq_decide.2 ?_
    unfold okOp
    simp only
    omega
  generalize hokb : (letI := okOpDec P.c ⟨kd, vl, nd⟩; decide (okOp P.c ⟨kd, vl, nd⟩)) = okb at *
  obtain ⟨d, hd⟩ := Int.eq_ofNat_of_zero_le hd0
  generalize pliveL P.procs = lv at *
  generalize P.procs.length = np at *
  generalize P.c.procs = cp at *
  have HRF : Hid ((okb = false → rk = 2) ∧ (okb = true → 256 ≤ np → rk = 3) ∧ (okb = true → ¬ 256 ≤ np → cp ≤ (lv : Int) → rk = 4) ∧ (okb = true → ¬ 256 ≤ np → ¬ cp ≤ (lv : Int) → rk = 0)) := by
    refine ⟨fun a => ?_, fun a b => ?_, fun a b d => ?_, fun a b d => ?_⟩
    · rw [HRF0, if_pos (@of_decide_eq_false _ (okOpDec _ _) (hokb.trans a))]
    · rw [HRF0, if_neg (fun k => k (@of_decide_eq_true _ (okOpDec _ _) (hokb.trans a))), if_pos b]
    · rw [HRF0, if_neg (fun k => k (@of_decide_eq_true _ (okOpDec _ _) (hokb.trans a))), if_neg b, if_pos d]
    · rw [HRF0, if_neg (fun k => k (@of_decide_eq_true _ (okOpDec _ _) (hokb.trans a))), if_neg b, if_neg d]
  clear HRF0
  clear hokb
  have HX : Hid (decide (1 ≤ nd ∧ nd ≤ wrap64 (wrap64 (2 ^ d) - 1)) = okb) := by
    show _ = _
    have h1 := sh_one d (by omega)
    have h2 : (2 : Nat) ^ d ≤ 2 ^ 4 := Nat.pow_le_pow_right (by omega) (by omega)
    have h3 := HOK.out
    rw [hd, Int.toNat_natCast] at h3
    rw [h1]
    generalize (2 : Nat) ^ d = z at *
    rw [IntWalk.wrap64_in _ ⟨by omega, by omega⟩, ← h3]
  clear HOK
  generalize P.c.kind = ck at *
  generalize P.c.depth = cd at *
  replace hlv : Hid _ := hlv
  clear h hlen
  subst hd
  have hw := fun (x : Int) W => within_c nd 1 x W
  replace hw : Hid _ := hw
  rcases hk with rfl | rfl
  · go_enter Try.func48, Try.ntmps48
    go_wp2_with fail
    go_quiet ((go_at_call 32; exact Calls.quiet_of_same (hw.out _ _)))
    go_wp2_with fail
    rw [HX.out]
    have hb0 := fun nq => Below.drewN' ((Below.refl w.heap.size w).alloc (Nat.le_refl _) (.cells #[I 3, I vl, I nd] 51)) nq
    replace hb0 := hb0 nq
    refine Calls.mono (hlv.out _ hb0) ?_
    rintro e w1 ⟨rfl, hb1⟩
    have hb2 : Below w.heap.size w w1 := hb0.trans (hb1.mono hb0.size)
    obtain ⟨g8, g9⟩ := HF.out w1 hb2
    clear hb1 c8 c9 HF hlv
    cases okb
    · have e1 : rk = 2 := HRF.out.1 rfl
      subst e1
      clear HRF
      go_wp2
      go_ret
      exact ⟨rfl, hb2⟩
    · by_cases h3 : 256 ≤ np
      · have e1 : rk = 3 := HRF.out.2.1 rfl (by omega)
        subst e1
        have hi3 : decide ((256 : Int) ≤ (np : Int)) = true := by simp; omega
        clear HRF
        go_wp2
        go_ret
        exact ⟨rfl, hb2⟩
      · have hd3 : decide ((256 : Int) ≤ (np : Int)) = false := by simp; omega
        by_cases h4 : cp ≤ (lv : Int)
        · have e1 : rk = 4 := HRF.out.2.2.1 rfl (by omega) (by omega)
          subst e1
          clear HRF h3
          go_wp2
          go_ret
          exact ⟨rfl, hb2⟩
        · have e1 : rk = 0 := HRF.out.2.2.2 rfl (by omega) (by omega)
          subst e1
          have hd4 : decide (cp ≤ (lv : Int)) = false := by simp; omega
          clear HRF h3
          go_wp2
          go_ret
          exact ⟨rfl, hb2⟩
  · go_enter Try.func48, Try.ntmps48
    go_wp2_with fail
    go_quiet ((go_at_call 32; exact Calls.quiet_of_same (hw.out _ _)))
    go_wp2_with fail
    rw [HX.out]
    have hb0 := fun nq => Below.drewN' ((Below.refl w.heap.size w).alloc (Nat.le_refl _) (.cells #[I 4, I vl, I nd] 51)) nq
    replace hb0 := hb0 nq
    refine Calls.mono (hlv.out _ hb0) ?_
    rintro e w1 ⟨rfl, hb1⟩
    have hb2 : Below w.heap.size w w1 := hb0.trans (hb1.mono hb0.size)
    obtain ⟨g8, g9⟩ := HF.out w1 hb2
    clear hb1 c8 c9 HF hlv
    cases okb
    · have e1 : rk = 2 := HRF.out.1 rfl
      subst e1
      clear HRF
      go_wp2
      go_ret
      exact ⟨rfl, hb2⟩
    · by_cases h3 : 256 ≤ np
      · have e1 : rk = 3 := HRF.out.2.1 rfl (by omega)
        subst e1
        have hi3 : decide ((256 : Int) ≤ (np : Int)) = true := by simp; omega
        clear HRF
        go_wp2
        go_ret
        exact ⟨rfl, hb2⟩
      · have hd3 : decide ((256 : Int) ≤ (np : Int)) = false := by simp; omega
        by_cases h4 : cp ≤ (lv : Int)
        · have e1 : rk = 4 := HRF.out.2.2.1 rfl (by omega) (by omega)
          subst e1
          clear HRF h3
          go_wp2
          go_ret
          exact ⟨rfl, hb2⟩
        · have e1 : rk = 0 := HRF.out.2.2.2 rfl (by omega) (by omega)
          subst e1
          have hd4 : decide (cp ≤ (lv : Int)) = false := by simp; omega
          clear HRF h3
          go_wp2
          go_ret
          exact ⟨rfl, hb2⟩

set_option maxHeartbeats 4000000 in
set_option maxRecDepth 100000 in
theorem krefusal_odd {w : World} {B hb : Nat} {P : PLay} {ops : List Op3} {went : List Bool} (h : KRep w B hb P ops went) (kd vl nd : Int) (hk : kd < 0 ∨ 4 < kd) :
    Calls Try.prog 48 #[.pointer (some ⟨hb, 0, none⟩), .agg #[I kd, I vl, I nd]] w fun e w' => e = .returned (I (refusalK P ⟨kd, vl, nd⟩)) ∧ Below w.heap.size w w' := by
  have hlv := fun W (hw : Below w.heap.size w W) => klive_c (h.below hw)
  obtain ⟨c1, c2, c8, ao, cap, c9, q1, q2, q3⟩ := h.conf
  have hlen := h.len
  rw [hlen] at c9 q1 q2
  have l0 := cell_lt c1
  unfold maxLen at q2 q3
  have HRF : refusalK P ⟨kd, vl, nd⟩ = 2 := by
    unfold refusalK okOp
    rw [if_pos]
    simp only
    omega
  rw [HRF]
  have b0 : (kd == 0) = false := by simp; omega
  have b1 : (kd == 1) = false := by simp; omega
  have b2 : (kd == 2) = false := by simp; omega
  have b3 : (kd == 3) = false := by simp; omega
  have b4 : (kd == 4) = false := by simp; omega
  replace hlv : Hid _ := hlv
  clear h hlen HRF hk
  go_enter Try.func48, Try.ntmps48
  go_wp2_with fail
  refine Calls.mono (hlv.out _ ((Below.refl _ _).alloc (Nat.le_refl _) _)) ?_
  rintro e w1 ⟨rfl, hb1⟩
  have hb2 : Below w.heap.size w w1 := ((Below.refl _ _).alloc (Nat.le_refl _) _).trans (hb1.mono (by simp))
  clear hb1 c8 c9
  go_wp2
  go_ret
  exact ⟨rfl, hb2⟩

theorem krefusal_c {w : World} {B hb : Nat} {P : PLay} {ops : List Op3} {went : List Bool} (h : KRep w B hb P ops went) (kd vl nd : Int) (hd0 : 0 ≤ P.c.depth) (hd4 : P.c.depth ≤ 4) :
    Calls Try.prog 48 #[.pointer (some ⟨hb, 0, none⟩), .agg #[I kd, I vl, I nd]] w fun e w' => e = .returned (I (refusalK P ⟨kd, vl, nd⟩)) ∧ Below w.heap.size w w' := by
  by_cases h3 : kd = 3 ∨ kd = 4
  · exact krefusal_chg h kd vl nd h3 hd0 hd4
  · by_cases h1 : kd = 0 ∨ kd = 1 ∨ kd = 2
    · have e : refusalK P ⟨kd, vl, nd⟩ = refusalW P kd := by
        unfold refusalK refusalW
        have : (¬ okOp P.c ⟨kd, vl, nd⟩) ↔ okW P.c.kind kd = false := by
          unfold okOp okW
          simp only [decide_eq_false_iff_not]
          omega
        by_cases x : okOp P.c ⟨kd, vl, nd⟩
        · rw [if_neg (fun k => k x), if_neg (fun k => this.2 k x)]
        · rw [if_pos x, if_pos (this.1 x)]
      rw [e]
      exact krefusal_walk h kd vl nd h1
    · exact krefusal_odd h kd vl nd (by omega)

end Go.Proofs.Ytjnmpejcegmkhab

namespace Go.Proofs.Ytjnmpejcegmkhab
open Go.RowKit

theorem grown_chg {w w2 : World} {B : Nat} {e : TypeId} {s : Nat} {v : Value} {n : Nat} {xs : List Value} (h : w.ownsRow B e s v n xs) (hg : w.grownBy w2 v.ownBlock) : ChgT B [e] w w2 := by
  refine ⟨hg.os, hg.tape, hg.output, hg.size, fun k hk hc => hg.block k hk fun he => ?_⟩
  rcases hc with hc | hc
  · have := (h.lt k he.symm).1; omega
  · obtain ⟨c', hc'⟩ := ownsRow_block h he.symm
    exact absurd (hc _ _ _ hc') (by simp)

/-- The hand's memory, whatever the lengths. -/
structure KMem (w : World) (B hb : Nat) (P : PLay) (ov wv : Value) (ops : List Op3) (went : List Bool) : Prop where
  blk : w.heap[hb]? = some (.cells (handCells P ov wv).toArray 41 (0, 0))
  rop : w.ownsRow B 51 3 ov ops.length (ops.flatMap opCells)
  rwe : w.ownsRow B 4 1 wv went.length (went.map Value.bool)
  hB : B ≤ hb
  prog : PRep w B P

theorem KRep.mem {w : World} {B hb : Nat} {P : PLay} {ops : List Op3} {went : List Bool} (h : KRep w B hb P ops went) : ∃ ov wv, KMem w B hb P ov wv ops went := by
  obtain ⟨ov, wv, a, b, d⟩ := h.blk
  exact ⟨ov, wv, a, b, d, h.hB, h.prog⟩
theorem KMem.below {w w' : World} {B hb : Nat} {P : PLay} {ov wv : Value} {ops : List Op3} {went : List Bool} (h : KMem w B hb P ov wv ops went) (hw : Below w.heap.size w w') : KMem w' B hb P ov wv ops went :=
  ⟨by rw [hw.block _ (Array.getElem?_eq_some_iff.1 h.blk).1]; exact h.blk, ownsRow_below h.rop hw (Nat.le_refl _), ownsRow_below h.rwe hw (Nat.le_refl _), h.hB, h.prog.below hw⟩

/-- The tree has one process more. -/
theorem KMem.spawned {w w' : World} {B hb : Nat} {P : PLay} {ov wv : Value} {ops : List Op3} {went : List Bool} (h : KMem w B hb P ov wv ops went) (hc : ChgT B [81, 101] w w') {y : Value} {ps : List PP} (hp : PRep w' B { P with pv := y, procs := ps }) : KMem w' B hb { P with pv := y, procs := ps } ov wv ops went :=
  ⟨hc.at h.blk (by decide), hc.row h.rop (by decide), hc.row h.rwe (by decide), h.hB, hp⟩

/-- An operation is appended to the hand's. -/
theorem KMem.pushOp {w w1 w2 : World} {B hb : Nat} {P : PLay} {ov wv x : Value} {ops : List Op3} {went : List Bool} (h : KMem w B hb P ov wv ops went) (hw : Below w.heap.size w w1) (o : Op3) (ho : w2.ownsRow B 51 3 x (ops.length + 1) (ops.flatMap opCells ++ opCells o)) (hg : w1.grownBy w2 ov.ownBlock) :
    KMem (w2.setCell ⟨hb, 9, none⟩ x) B hb P x wv (ops ++ [o]) went ∧ ChgT B [51, 41] w (w2.setCell ⟨hb, 9, none⟩ x) := by
  have h1 := h.below hw
  have hc := grown_chg h1.rop hg
  have hb2 := hc.at h1.blk (by decide)
  have hcc : ChgT B [51, 41] w1 (w2.setCell ⟨hb, 9, none⟩ x) := (hc.mono (Nat.le_refl _) (by simp)).trans (by
    refine ⟨rfl, rfl, rfl, by simp [World.setCell], fun k _ hk => Below.heap_setCell _ _ _ _ ?_⟩
    intro e
    have e' : k = hb := e
    rcases hk with hk | hk
    · have := h.hB
      omega
    · exact absurd (hk _ _ _ (by rw [e']; exact hb2)) (by simp))
  refine ⟨⟨?_, ?_, hcc.row h1.rwe (by decide), h.hB, h1.prog.chg hcc (by decide) (by decide) (by decide)⟩, (ChgT.of_below hw).trans hcc⟩
  · rw [nb_set hb2]
    rfl
  · have := ownsRow_setCell_type ho hb2 (by decide) 9 x
    have e : (ops ++ [o]).flatMap opCells = ops.flatMap opCells ++ opCells o := by rw [List.flatMap_append]; simp
    rw [e, List.length_append]
    exact this

theorem KMem.pushWent {w w1 w2 : World} {B hb : Nat} {P : PLay} {ov wv x : Value} {ops : List Op3} {went : List Bool} (h : KMem w B hb P ov wv ops went) (hw : Below w.heap.size w w1) (b : Bool) (ho : w2.ownsRow B 4 1 x (went.length + 1) (went.map Value.bool ++ [.bool b])) (hg : w1.grownBy w2 wv.ownBlock) :
    KMem (w2.setCell ⟨hb, 10, none⟩ x) B hb P ov x ops (went ++ [b]) ∧ ChgT B [4, 41] w (w2.setCell ⟨hb, 10, none⟩ x) := by
  have h1 := h.below hw
  have hc := grown_chg h1.rwe hg
  have hb2 := hc.at h1.blk (by decide)
  have hcc : ChgT B [4, 41] w1 (w2.setCell ⟨hb, 10, none⟩ x) := (hc.mono (Nat.le_refl _) (by simp)).trans (by
    refine ⟨rfl, rfl, rfl, by simp [World.setCell], fun k _ hk => Below.heap_setCell _ _ _ _ ?_⟩
    intro e
    have e' : k = hb := e
    rcases hk with hk | hk
    · have := h.hB
      omega
    · exact absurd (hk _ _ _ (by rw [e']; exact hb2)) (by simp))
  refine ⟨⟨?_, hcc.row h1.rop (by decide), ?_, h.hB, h1.prog.chg hcc (by decide) (by decide) (by decide)⟩, (ChgT.of_below hw).trans hcc⟩
  · rw [nb_set hb2]
    rfl
  · have := ownsRow_setCell_type ho hb2 (by decide) 10 x
    rw [List.map_append, List.length_append]
    exact this

end Go.Proofs.Ytjnmpejcegmkhab

namespace Go.Proofs.Ytjnmpejcegmkhab
open Go.RowKit

end Go.Proofs.Ytjnmpejcegmkhab

namespace Go.Proofs.Ytjnmpejcegmkhab
open Go.RowKit

theorem Try.info51 : (Try.prog.info? 51).map (fun i => (i.zero, i.size, i.bytes)) = some (some (.agg #[.int .i64 0, .int .i64 0, .int .i64 0]), 3, 24) := by kernel_rfl

theorem Try.info4 : (Try.prog.info? 4).map (fun i => (i.zero, i.size, i.bytes)) = some (some (.bool false), 1, 1) := by kernel_rfl

end Go.Proofs.Ytjnmpejcegmkhab

namespace Go.Proofs.Ytjnmpejcegmkhab
open Go.RowKit

end Go.Proofs.Ytjnmpejcegmkhab

namespace Go.Proofs.Ytjnmpejcegmkhab
open Go.RowKit

def amongTo (v : Int) (xs : List Int) : Bool := xs.any fun x => x == v

set_option maxHeartbeats 2000000 in
theorem among_c (v : Int) (xs : List Int) (b : Nat) (w : World) (hb : w.heap[b]? = some (.cells (xs.map I).toArray 3 (0, 0))) (hl : xs.length ≤ 100) :
    Calls Try.prog 46 #[I v, .slice (some ⟨b, 0, none⟩) xs.length xs.length] w fun e w' => e = .returned (.bool (amongTo v xs)) ∧ w' = w := by
  have hc : ∀ k, (hk : k < xs.length) → w.cell? ⟨b, k, none⟩ = some (I xs[k]) := by
    intro k hk
    rw [(nb_facts hb).1 k]
    simp [hk]
  clear hb
  go_enter Try.func46, Try.ntmps46
  go_wp2_with fail
  go_loop [5] (fun i => ∃ k : Nat, k ≤ xs.length ∧ i = .int .i64 k ∧ amongTo v (xs.take k) = false) (fun i => xs.length - (intOf i).toNat)
  case atStart => exact ⟨0, Nat.zero_le _, rfl, rfl⟩
  case round =>
    obtain ⟨k, hk, rfl, hno⟩ := hrel
    have HNO : Hid _ := hno
    clear hno
    by_cases hlt : k < xs.length
    · have c := hc k hlt
      have hts : Hid (amongTo v (xs.take (k + 1)) = (amongTo v (xs.take k) || (xs[k] == v))) := by
        show _ = _
        unfold amongTo
        rw [take_succ_get xs k hlt, List.any_append]
        simp only [List.any_cons, List.any_nil, Bool.or_false]
      have hin : Hid ((xs[k] == v) = true → amongTo v xs = true) := by
        intro h
        unfold amongTo
        rw [List.any_eq_true]
        exact ⟨xs[k], List.getElem_mem hlt, h⟩
      generalize xs[k] = x at *
      cases hx : (x == v) with
      | true =>
        have HT : Hid (amongTo v xs = true) := hin.out hx
        clear hts hin HNO hc
        go_wp2
        go_ret
        exact ⟨by rw [HT.out]; rfl, rfl⟩
      | false =>
        have HS : Hid (amongTo v (xs.take (k + 1)) = false) := by rw [hts.out, HNO.out, hx]; rfl
        clear hts hin HNO hc
        go_wp2
        go_round
        case rel => exact ⟨k + 1, by omega, by go_num, HS.out⟩
        case measure => simp [intOf]; omega
    · have HE : Hid (amongTo v xs = false) := by
        have := HNO.out
        rw [List.take_of_length_le (by omega)] at this
        exact this
      have hd : decide ((k : Int) < (xs.length : Int)) = false := by simp; omega
      go_wp2
      go_ret
      exact ⟨by rw [HE.out]; rfl, rfl⟩

def behindL (ph : Int) : List Int :=
  if ph = 0 then [1] else if ph = 1 then [2, 3, 12, 19, 15, 0] else if ph = 2 then [0] else if ph = 3 then [4] else if ph = 4 then [5, 8, 11] else if ph = 5 then [6, 9] else if ph = 6 then [7, 6, 10] else if ph = 7 then [0, 19] else if ph = 8 then [0, 19, 9]
  else if ph = 9 then [11] else if ph = 10 then [11] else if ph = 11 then [0] else if ph = 12 then [19, 13, 14] else if ph = 13 then [19, 13] else if ph = 14 then [19, 14] else if ph = 15 then [16, 19, 20] else if ph = 16 then [17, 16, 18] else [19, 20]

set_option maxHeartbeats 4000000 in
set_option maxRecDepth 100000 in
theorem behind_c (ph : Int) (h0 : 0 ≤ ph) (h19 : ph ≤ 19) (w : World) :
    Calls Try.prog 45 #[I ph] w fun e w' => e = .returned (.slice (some ⟨w.heap.size, 0, none⟩) (behindL ph).length (behindL ph).length) ∧ w'.heap[w.heap.size]? = some (.cells ((behindL ph).map I).toArray 3 (0, 0)) ∧ Below w.heap.size w w' := by
  have hp : ph = 0 ∨ ph = 1 ∨ ph = 2 ∨ ph = 3 ∨ ph = 4 ∨ ph = 5 ∨ ph = 6 ∨ ph = 7 ∨ ph = 8 ∨ ph = 9 ∨ ph = 10 ∨ ph = 11 ∨ ph = 12 ∨ ph = 13 ∨ ph = 14 ∨ ph = 15 ∨ ph = 16 ∨ ph = 17 ∨ ph = 18 ∨ ph = 19 := by omega
  clear h0 h19
  rcases hp with rfl | rfl | rfl | rfl | rfl | rfl | rfl | rfl | rfl | rfl | rfl | rfl | rfl | rfl | rfl | rfl | rfl | rfl | rfl | rfl
  all_goals
    go_enter Try.func45, Try.ntmps45
    go_wp2
    go_ret
    exact ⟨rfl, nb_alloc _ _ _, (Below.refl _ _).alloc (Nat.le_refl _) _⟩

end Go.Proofs.Ytjnmpejcegmkhab

namespace Go.Proofs.Ytjnmpejcegmkhab
open Go.RowKit

/-- The tree has taken a step. -/
theorem KMem.stepped {w w' : World} {B hb : Nat} {P P' : PLay} {ov wv : Value} {ops : List Op3} {went : List Bool} (h : KMem w B hb P ov wv ops went) (hc : ChgT B [81, 101, 108] w w') (hp : PRep w' B P') (htb : P'.tb = P.tb) (hcc : P'.c = P.c) : KMem w' B hb P' ov wv ops went :=
  ⟨by have := hc.at h.blk (by decide); unfold handCells at this ⊢; rw [htb, hcc]; exact this, hc.row h.rop (by decide), hc.row h.rwe (by decide), h.hB, hp⟩

/-- One of those that went is written. -/
theorem KMem.wentSet {w : World} {B hb : Nat} {P : PLay} {ov : Value} {g cap : Nat} {ops : List Op3} {went : List Bool} (h : KMem w B hb P ov (.slice (some ⟨g, 0, none⟩) went.length cap) ops went) (i : Nat) (b : Bool) :
    KMem (w.setCell ⟨g, i, none⟩ (.bool b)) B hb P ov (.slice (some ⟨g, 0, none⟩) went.length cap) ops (went.set i b) ∧ ChgT B [4] w (w.setCell ⟨g, i, none⟩ (.bool b)) := by
  obtain ⟨cur, hbk⟩ := ownsRow_block h.rwe (g := g) rfl
  have hBg := (h.rwe.lt g rfl).1
  have hc : ChgT B [4] w (w.setCell ⟨g, i, none⟩ (.bool b)) := by
    refine ⟨rfl, rfl, rfl, by simp [World.setCell], fun k _ hk => Below.heap_setCell _ _ _ _ ?_⟩
    intro e
    have e' : k = g := e
    rcases hk with hk | hk
    · omega
    · exact absurd (hk _ _ _ (by rw [e']; exact hbk)) (by simp)
  refine ⟨⟨hc.at h.blk (by decide), hc.row h.rop (by decide), ?_, h.hB, h.prog.chg hc (by decide) (by decide) (by decide)⟩, hc⟩
  have := (h.rwe.stored i (.bool b)).1
  rw [← List.map_set] at this
  rw [List.length_set]
  exact this

theorem behindL_len (a : Int) : (behindL a).length ≤ 100 := by
  have key : ∀ (c : Prop) [Decidable c] (x y : List Int), x.length ≤ 100 → y.length ≤ 100 → (if c then x else y).length ≤ 100 := by
    intro c _ x y h1 h2
    split <;> assumption
  unfold behindL
  repeat (refine key _ _ _ (by decide) ?_)
  decide

end Go.Proofs.Ytjnmpejcegmkhab

namespace Go.Proofs.Ytjnmpejcegmkhab
open Go.RowKit

set_option maxHeartbeats 4000000 in
/-- Step is step, and the phase that comes of it. -/
theorem pStep_ret {B : Nat} {P : PLay} {i : Nat} (hi : i < P.procs.length) (hl : (P.procs[i]).phase ≠ 20) (draw : Int) {F : PLay → Prop} (hF : ∀ P', F P' → P'.tb = P.tb ∧ P'.procs.length = P.procs.length)
    (hs : ∀ W, PRep W B P → B ≤ W.heap.size → Calls Try.prog 56 #[.pointer (some ⟨P.tb, 0, none⟩), I i, I draw] W fun e w' => e = .returned (.tuple #[]) ∧ (∃ P', F P' ∧ PRep w' B P') ∧ ChgT B [81, 101, 108] W w')
    {W : World} (h : PRep W B P) (hB : B ≤ W.heap.size) :
    Calls Try.prog 44 #[.pointer (some ⟨P.tb, 0, none⟩), I i, I draw] W fun e w' => (∃ P', e = .returned (.tuple #[I (P'.procs.getD i zeroPP).phase, I 0]) ∧ F P' ∧ PRep w' B P') ∧ ChgT B [81, 101, 108] W w' := by
  have HF : Hid (∀ w' P', F P' → PRep w' B P' → ∃ g cap, w'.cell? ⟨g, i * 11 + 3, none⟩ = some (I (P'.procs.getD i zeroPP).phase) ∧ w'.cell? ⟨P.tb, 680, none⟩ = some (.slice (some ⟨g, 0, none⟩) P.procs.length cap) ∧ P.procs.length ≤ cap ∧ P.procs.length ≤ 2 ^ 63 - 1 ∧ cap ≤ 2 ^ 63 - 1) := by
    intro w' P' hf hp
    obtain ⟨e1, e2⟩ := hF P' hf
    obtain ⟨ao, cap, k1, k2, k3, k4, k5⟩ := hp.pp_at
    have hi' : i < P'.procs.length := by omega
    obtain ⟨g, rfl, hg⟩ := k5 i hi'
    have hp1 := hp.pcell
    rw [e1, k1, e2] at hp1
    rw [e2] at k2 k3
    have hd : P'.procs.getD i zeroPP = P'.procs[i] := by simp [List.getD_eq_getElem?_getD, List.getElem?_eq_getElem hi']
    refine ⟨g, cap, ?_, hp1, k2, k3, k4⟩
    rw [hg 3 (by omega), hd]
    rfl
  obtain ⟨ao, cap, k1, k2, k3, k4, k5⟩ := h.pp_at
  obtain ⟨g, rfl, hg⟩ := k5 i hi
  have p1 := h.pcell
  rw [k1] at p1
  have c3 : W.cell? ⟨g, i * 11 + 3, none⟩ = some (I (P.procs[i]).phase) := by rw [hg 3 (by omega)]; rfl
  have b1 : ((P.procs[i]).phase == 20) = false := by simp [hl]
  have hi0 : decide ((i : Int) < 0) = false := by simp
  have hil : (i : Int) < (P.procs.length : Int) := by omega
  unfold maxLen at k3 k4
  have hc := hs W h hB
  replace hc : Hid _ := hc
  generalize (P.procs[i]).phase = ph0 at *
  clear h hs hF k5 hg k1 hl
  generalize P.procs.length = np at *
  go_enter Try.func44, Try.ntmps44
  go_wp2_with fail
  refine Calls.mono hc.out ?_
  rintro e w1 ⟨rfl, ⟨P', hf, hp⟩, hch⟩
  obtain ⟨g', cap', e3, e680, e1, e2, e4⟩ := HF.out _ _ hf hp
  clear hc HF c3 p1
  replace hf : Hid _ := hf
  replace hp : Hid _ := hp
  replace hch : Hid _ := hch
  go_wp2
  go_ret2
  exact ⟨⟨P', rfl, hf.out, hp.out⟩, hch.out⟩

set_option maxHeartbeats 8000000 in
set_option maxRecDepth 100000 in
theorem kstep_run {w : World} {B hb : Nat} {P : PLay} {ops : List Op3} {went : List Bool} (h : KRep w B hb P ops went) (hB : B ≤ w.heap.size) (i : Nat) (hi : i < P.procs.length) (draw ph : Int) (a : Int) (ha : (toldP P i).1 = a) (ha0 : 0 ≤ a) (ha9 : a ≤ 19) (hin : amongTo ph (behindL a) = true) (F : PLay → Prop) (hF : ∀ P', F P' → P'.tb = P.tb ∧ P'.c = P.c ∧ P'.procs.length = P.procs.length ∧ (toldP P' i).1 = ph)
    (hs : ∀ W, PRep W B P → B ≤ W.heap.size → Calls Try.prog 44 #[.pointer (some ⟨P.tb, 0, none⟩), I i, I draw] W fun x w' => x = .returned (.tuple #[I ph, I 0]) ∧ (∃ P', F P' ∧ PRep w' B P') ∧ ChgT B [81, 101, 108] W w') :
    Calls Try.prog 25 #[.pointer (some ⟨hb, 0, none⟩), I i, I draw] w fun e w' => e = .returned (.bool true) ∧ (∃ P', F P' ∧ KRep w' B hb P' ops (went.set i true)) ∧ ChgT B [81, 101, 108, 4] w w' := by
  have hat := fun W (hw : Below w.heap.size w W) => kat_c (h.below hw) (i : Int)
  rw [ha] at hat
  have hsp := fun W (hw : Below w.heap.size w W) => hs W (h.prog.below hw) (Nat.le_trans hB hw.size)
  obtain ⟨ov, wv, hm⟩ := h.mem
  obtain ⟨_, _, _, ao, cap, c9, q1, q2, q3⟩ := h.conf
  have hlen := h.len
  have hwlen := h.wlen
  rw [hlen] at c9 q1 q2
  unfold maxLen at q2 q3
  have HT : Hid (∀ W, Below w.heap.size w W → W.cell? ⟨hb, 0, none⟩ = some (.pointer (some ⟨P.tb, 0, none⟩))) := fun W hw => (h.below hw).t
  have l0 := cell_lt c9
  have hi0 : decide ((i : Int) < 0) = false := by simp
  have hil : (i : Int) < (P.procs.length : Int) := by omega
  have b20 : (a == 20) = false := by simp; omega
  generalize (toldP P i).2.1 = a1 at *
  generalize (toldP P i).2.2 = a2 at *
  replace hat : Hid _ := hat
  replace hsp : Hid _ := hsp
  replace hF : Hid _ := hF
  clear h hs ha
  go_enter Try.func25, Try.ntmps25
  go_wp2_with fail
  refine Calls.mono (hat.out _ (Below.refl _ _)) ?_
  rintro e w1 ⟨rfl, hb1⟩
  have c0 := HT.out w1 hb1
  have l1 := cell_lt c0
  clear hat c9
  have hba := hb1.alloc hb1.size (.cells #[I a, I a1, I a2] 48)
  have hna : (w1.alloc (.cells #[I a, I a1, I a2] 48)).heap[w1.heap.size]? = some (.cells #[I a, I a1, I a2] 48 (0, 0)) := nb_alloc _ _ _
  go_wp2_with fail
  refine Calls.mono (hsp.out _ hba) ?_
  rintro e w2 ⟨rfl, ⟨P2, hF2, hpr⟩, hc2⟩
  obtain ⟨hFt, hFc, hFl, hFp⟩ := hF.out P2 hF2
  replace hF2 : Hid _ := hF2
  clear hF
  have hm2 := (hm.below hba).stepped hc2 hpr hFt hFc
  have nx2 := hc2.at hna (by decide)
  have hK2 : KRep w2 B hb P2 ops went := ⟨⟨_, _, hm2.blk, hm2.rop, hm2.rwe⟩, hm2.hB, hm2.prog, by rw [hFl]; exact hlen, hwlen⟩
  have hat2 := fun W (hw : Below w2.heap.size w2 W) => kat_c (hK2.below hw) (i : Int)
  rw [hFp] at hat2
  generalize (toldP P2 i).2.1 = b1 at *
  generalize (toldP P2 i).2.2 = b2 at *
  have hcw : ChgT B [81, 101, 108] w w2 := (ChgT.of_below hba).trans hc2
  obtain ⟨y1, _⟩ := nb_facts nx2
  have l2 := (Array.getElem?_eq_some_iff.1 nx2).1
  have lh2 := (Array.getElem?_eq_some_iff.1 hm2.blk).1
  obtain ⟨ao2, cap2, e1, r1, r2, r3, hrc⟩ := ownsRow_cells hm2.rwe
  obtain ⟨gw, rfl, _, hgc⟩ := hrc i (.bool (went.getD i false)) (by simp [List.getD_eq_getElem?_getD, List.getElem?_eq_getElem (by omega : i < went.length)])
  rw [hwlen, hlen] at e1 r1 r2
  unfold maxLen at r2 r3
  replace hat2 : Hid _ := hat2
  have HM2 : Hid _ := hm2
  have HCW : Hid _ := hcw
  clear hsp hm HT c0 hba hna hc2 hpr hK2 hm2 hcw hrc hb1 q1 q2 q3
  go_wp2_with fail
  refine Calls.mono (hat2.out _ (Below.refl _ _)) ?_
  rintro e w3 ⟨rfl, hb3⟩
  have hm3 := HM2.out.below hb3
  have nx3 := (hb3.block _ l2).trans nx2
  obtain ⟨z1, _⟩ := nb_facts nx3
  have l3 := (Array.getElem?_eq_some_iff.1 nx3).1
  have d10 : w3.cell? ⟨hb, 10, none⟩ = some (.slice (some ⟨gw, 0, none⟩) P.procs.length cap2) := by rw [(nb_facts hm3.blk).1 10, ← e1]; rfl
  have lh3 := cell_lt d10
  have hm3' := hm3
  rw [e1] at hm3'
  have dgw : w3.cell? ⟨gw, i, none⟩ = some (.bool (went.getD i false)) := by
    have := (hb3.cell (p := ⟨gw, i, none⟩) (cell_lt hgc)).trans hgc
    exact this
  have lgw := cell_lt dgw
  have hfz : w3.frozen? ⟨gw, i, none⟩ = false := by
    obtain ⟨cur, hbk⟩ := ownsRow_block hm3'.rwe (g := gw) rfl
    exact (nb_facts hbk).2 i
  have hgx : gw ≠ w1.heap.size := by
    intro e
    obtain ⟨cur, hbk⟩ := ownsRow_block hm3'.rwe (g := gw) rfl
    rw [e, nx3] at hbk
    simp at hbk
  have hmw := fun W (hw : Below w3.heap.size w3 W) => (show KMem W B hb P2 ov (.slice (some ⟨gw, 0, none⟩) went.length cap2) ops went from by rw [hwlen, hlen]; exact hm3'.below hw).wentSet i true
  replace hmw : Hid _ := hmw
  have HB3 : Hid _ := hb3
  have hbe := fun W => behind_c a ha0 ha9 W
  replace hbe : Hid _ := hbe
  have HAM : Hid (∀ W b, W.heap[b]? = some (.cells ((behindL a).map I).toArray 3 (0, 0)) → Calls Try.prog 46 #[I ph, .slice (some ⟨b, 0, none⟩) (behindL a).length (behindL a).length] W fun e w' => e = .returned (.bool true) ∧ w' = W) := by
    intro W b hb'
    have := among_c ph (behindL a) b W hb' (behindL_len a)
    rw [hin] at this
    exact this
  clear HM2 hm3 hm3' e1 y1 nx2 hat2 hb3 hgc hin
  have nb0 : ((w3.setCell ⟨gw, i, none⟩ (.bool true)).alloc (.cells #[I ph, I b1, I b2] 48)).heap[w3.heap.size]? = some (.cells #[I ph, I b1, I b2] 48 (0, 0)) := by
    have := nb_alloc (w3.setCell ⟨gw, i, none⟩ (.bool true)) #[I ph, I b1, I b2] 48
    have es : (w3.setCell ⟨gw, i, none⟩ (.bool true)).heap.size = w3.heap.size := by simp [World.setCell]
    rw [es] at this
    exact this
  have esz : ((w3.setCell ⟨gw, i, none⟩ (.bool true)).alloc (.cells #[I ph, I b1, I b2] 48)).heap.size = w3.heap.size + 1 := by simp [World.setCell]
  have HFIN : Hid (∀ W, Below ((w3.setCell ⟨gw, i, none⟩ (.bool true)).alloc (.cells #[I ph, I b1, I b2] 48)).heap.size ((w3.setCell ⟨gw, i, none⟩ (.bool true)).alloc (.cells #[I ph, I b1, I b2] 48)) W → (∃ P', F P' ∧ KRep W B hb P' ops (went.set i true)) ∧ ChgT B [81, 101, 108, 4] w W) := by
    intro W hw
    obtain ⟨m1, m2⟩ := hmw.out w3 (Below.refl _ _)
    have hbl : Below (w3.setCell ⟨gw, i, none⟩ (.bool true)).heap.size (w3.setCell ⟨gw, i, none⟩ (.bool true)) W := ((Below.refl _ _).alloc (Nat.le_refl _) _).trans (hw.mono (by simp))
    have mW := m1.below hbl
    refine ⟨⟨P2, hF2.out, ⟨_, _, mW.blk, mW.rop, mW.rwe⟩, mW.hB, mW.prog, by rw [hFl]; exact hlen, by simp [hwlen]⟩, ?_⟩
    exact (((HCW.out.mono (Nat.le_refl _) (by simp)).trans (ChgT.of_below HB3.out)).trans (m2.mono (Nat.le_refl _) (by simp))).trans (ChgT.of_below hbl)
  clear hmw
  go_wp2_with fail
  refine Calls.mono (hbe.out _) ?_
  rintro e w4 ⟨rfl, hb4, hbb⟩
  rw [esz] at hb4 hbb ⊢
  have nx4 := (hbb.block _ (Nat.lt_succ_self _)).trans nb0
  obtain ⟨v1, _⟩ := nb_facts nx4
  have l4 := (Array.getElem?_eq_some_iff.1 nx4).1
  rw [← esz] at hbb
  have HBB : Hid _ := hbb
  clear hbe hbb nb0 dgw hfz z1 nx3 d10
  go_wp2_with fail
  refine Calls.mono (HAM.out _ _ hb4) ?_
  rintro e w5 ⟨rfl, rfl⟩
  clear HAM
  go_wp2
  go_ret
  exact ⟨rfl, HFIN.out _ HBB.out⟩

set_option maxHeartbeats 4000000 in
/-- There is no such process: refused. -/
theorem kstep_none {w : World} {B hb : Nat} {P : PLay} {ops : List Op3} {went : List Bool} (h : KRep w B hb P ops went) (p : Int) (hp : p < 0 ∨ (P.procs.length : Int) ≤ p) (draw : Int) :
    Calls Try.prog 25 #[.pointer (some ⟨hb, 0, none⟩), I p, I draw] w fun e w' => e = .returned (.bool true) ∧ Below w.heap.size w w' := by
  have hs := pStep_none h.prog p hp draw
  have c0 := h.t
  obtain ⟨_, _, _, ao, cap, c9, q1, q2, q3⟩ := h.conf
  have hlen := h.len
  rw [hlen] at c9 q1 q2
  unfold maxLen at q2 q3
  replace hs : Hid _ := hs
  clear h
  by_cases h0 : p < 0
  · have b0 : decide (p < 0) = true := by simp [h0]
    go_enter Try.func25, Try.ntmps25
    go_wp2_with fail
    refine Calls.mono hs.out ?_
    rintro e w1 ⟨rfl, hb1⟩
    go_wp2
    go_ret
    exact ⟨rfl, hb1⟩
  · have b0 : decide (p < 0) = false := by simp; omega
    have b1 : (P.procs.length : Int) ≤ p := by omega
    go_enter Try.func25, Try.ntmps25
    go_wp2_with fail
    refine Calls.mono hs.out ?_
    rintro e w1 ⟨rfl, hb1⟩
    go_wp2
    go_ret
    exact ⟨rfl, hb1⟩

set_option maxHeartbeats 4000000 in
/-- Who is Done does not step. -/
theorem kstep_done {w : World} {B hb : Nat} {P : PLay} {ops : List Op3} {went : List Bool} (h : KRep w B hb P ops went) (i : Nat) (hi : i < P.procs.length) (ha : (toldP P i).1 = 20) (draw : Int)
    (hs : ∀ W, PRep W B P → Calls Try.prog 44 #[.pointer (some ⟨P.tb, 0, none⟩), I i, I draw] W fun x w' => x = .returned (.tuple #[I 0, I 5]) ∧ Below W.heap.size W w') :
    Calls Try.prog 25 #[.pointer (some ⟨hb, 0, none⟩), I i, I draw] w fun e w' => e = .returned (.bool true) ∧ Below w.heap.size w w' := by
  have hat := fun W (hw : Below w.heap.size w W) => kat_c (h.below hw) (i : Int)
  rw [ha] at hat
  have hsp := fun W (hw : Below w.heap.size w W) => hs W (h.prog.below hw)
  obtain ⟨_, _, _, ao, cap, c9, q1, q2, q3⟩ := h.conf
  have hlen := h.len
  rw [hlen] at c9 q1 q2
  unfold maxLen at q2 q3
  have HT : Hid (∀ W, Below w.heap.size w W → W.cell? ⟨hb, 0, none⟩ = some (.pointer (some ⟨P.tb, 0, none⟩))) := fun W hw => (h.below hw).t
  have l0 := cell_lt c9
  have hi0 : decide ((i : Int) < 0) = false := by simp
  have hil : (i : Int) < (P.procs.length : Int) := by omega
  generalize (toldP P i).2.1 = a1 at *
  generalize (toldP P i).2.2 = a2 at *
  replace hat : Hid _ := hat
  replace hsp : Hid _ := hsp
  clear h hs ha
  go_enter Try.func25, Try.ntmps25
  go_wp2_with fail
  refine Calls.mono (hat.out _ (Below.refl _ _)) ?_
  rintro e w1 ⟨rfl, hb1⟩
  have c0 := HT.out w1 hb1
  have l1 := cell_lt c0
  clear hat c9
  have hba := hb1.alloc hb1.size (.cells #[I 20, I a1, I a2] 48)
  have hna : (w1.alloc (.cells #[I 20, I a1, I a2] 48)).heap[w1.heap.size]? = some (.cells #[I 20, I a1, I a2] 48 (0, 0)) := nb_alloc _ _ _
  go_wp2_with fail
  refine Calls.mono (hsp.out _ hba) ?_
  rintro e w2 ⟨rfl, hb2⟩
  have nx2 := (hb2.block _ (by simp)).trans hna
  obtain ⟨y1, _⟩ := nb_facts nx2
  have l2 := (Array.getElem?_eq_some_iff.1 nx2).1
  clear hsp
  go_wp2
  go_ret
  exact ⟨rfl, hba.trans (hb2.mono hba.size)⟩

end Go.Proofs.Ytjnmpejcegmkhab

namespace Go.Proofs.Ytjnmpejcegmkhab
open Go.RowKit

end Go.Proofs.Ytjnmpejcegmkhab

namespace Go.Proofs.Ytjnmpejcegmkhab
open Go.RowKit
set_option linter.unusedVariables false

theorem CRel.next {c : Conf} {B : Nat} {L : Lay} {P : PLay} (h : CRel c L P) {i : Nat} (hi : i < L.procs.length) (hl : (L.procs[i]).2.phase ≠ 20) (draw : Int) :
    ∃ ph, ProgStep B P i draw ph (fun P' => P'.tb = P.tb ∧ CRel c (lstep L i draw) P') ∧ RefStep B L i draw ph (fun L' => L'.tb = L.tb ∧ Same (lstep L i draw) L') ∧ ∃ P', CRel c (lstep L i draw) P' := by
  obtain ⟨v, n, hh⟩ := h.rel.here hi hl
  obtain ⟨ph, FP, FL, h1, h2, h3, ⟨⟨P0, hP0⟩, ⟨L0, hL0⟩, h4⟩, h5, h6⟩ := hh.both (B := B) h.ck draw
  have key : ∀ P', FP P' → CRel c (lstep L i draw) P' := fun P' hP => (h1 L0 P' hL0 hP).same (h4 L0 hL0).symm
  refine ⟨ph, ⟨fun W a b => (h5.1 W a b).mono ?_, fun W a b => (h5.2 W a b).mono ?_⟩, fun W a b => (h6 W a b).mono ?_, P0, key P0 hP0⟩
  · rintro e w' ⟨e0, ⟨P', x, y⟩, z⟩
    exact ⟨e0, ⟨P', ⟨h2 P' x, key P' x⟩, y⟩, z⟩
  · rintro e w' ⟨e0, ⟨P', x, y⟩, z⟩
    exact ⟨e0, ⟨P', ⟨h2 P' x, key P' x⟩, y⟩, z⟩
  · rintro e w' ⟨e0, ⟨L', x, y⟩, z⟩
    exact ⟨e0, ⟨L', ⟨h3 L' x, h4 L' x⟩, y⟩, z⟩

theorem CRel.plen {c : Conf} {L : Lay} {P : PLay} (h : CRel c L P) : P.procs.length = L.procs.length := by rw [h.rel.procs, List.length_map]
end Go.Proofs.Ytjnmpejcegmkhab

namespace Go.Proofs.Ytjnmpejcegmkhab
open Go.RowKit

def toPPs (ps : Prs) : List PP := ps.map fun x => toPP x.2

/-- From phase a at node v to phase b at node nd. -/
def PM (v : Nat) (a b nd : Int) : Prop :=
  (a = 0 ∧ b = 1 ∧ nd = (v : Int)) ∨ (a = 1 ∧ nd = (v : Int) ∧ (b = 2 ∨ b = 3 ∨ b = 12 ∨ b = 19)) ∨ (a = 1 ∧ (b = 0 ∨ b = 15) ∧ nd / 2 = (v : Int)) ∨ (a = 2 ∧ b = 0 ∧ nd = (v : Int)) ∨ (a = 3 ∧ b = 4 ∧ nd = (v : Int)) ∨ (a = 4 ∧ nd = (v : Int) ∧ (b = 5 ∨ b = 8 ∨ b = 11)) ∨ (a = 5 ∧ nd = (v : Int) ∧ (b = 6 ∨ b = 9)) ∨ (a = 6 ∧ nd = (v : Int) ∧ (b = 7 ∨ b = 6 ∨ b = 10)) ∨ (b = 0 ∧ (a = 7 ∨ a = 8 ∨ a = 11) ∧ nd / 2 = (v : Int)) ∨ (b = 19 ∧ nd = (v : Int) ∧ (a = 7 ∨ a = 8)) ∨ (a = 8 ∧ b = 9 ∧ nd = (v : Int)) ∨ (b = 11 ∧ nd = (v : Int) ∧ (a = 9 ∨ a = 10)) ∨ (a = 12 ∧ nd = (v : Int) ∧ (b = 19 ∨ b = 13 ∨ b = 14)) ∨ (a = 13 ∧ nd = (v : Int) ∧ (b = 19 ∨ b = 13)) ∨ (a = 14 ∧ nd = (v : Int) ∧ (b = 19 ∨ b = 14)) ∨ (a = 15 ∧ b = 16 ∧ nd = (v : Int)) ∨ (a = 16 ∧ nd = (v : Int) ∧ (b = 17 ∨ b = 16 ∨ b = 18)) ∨ (b = 19 ∧ nd = (v : Int) / 2 ∧ (a = 15 ∨ a = 17 ∨ a = 18 ∨ a = 19) ∧ (v : Int) / 2 ≠ 0) ∨ (b = 20 ∧ nd = 0 ∧ (a = 15 ∨ a = 17 ∨ a = 18 ∨ a = 19) ∧ (v : Int) / 2 = 0)
theorem PM.enter {v : Nat} : PM v 0 1 v := Or.inl ⟨rfl, rfl, rfl⟩
theorem PM.look {v : Nat} (b : Int) (hb : b = 2 ∨ b = 3 ∨ b = 12 ∨ b = 19) : PM v 1 b v := Or.inr (Or.inl ⟨rfl, rfl, hb⟩)
theorem PM.lookDown {v : Nat} (b nd : Int) (hb : b = 0 ∨ b = 15) (hn : nd / 2 = v) : PM v 1 b nd := Or.inr (Or.inr (Or.inl ⟨rfl, hb, hn⟩))
theorem PM.back {v : Nat} : PM v 2 0 v := Or.inr (Or.inr (Or.inr (Or.inl ⟨rfl, rfl, rfl⟩)))
theorem PM.wide {v : Nat} : PM v 3 4 v := Or.inr (Or.inr (Or.inr (Or.inr (Or.inl ⟨rfl, rfl, rfl⟩))))
theorem PM.slot {v : Nat} (b : Int) (hb : b = 5 ∨ b = 8 ∨ b = 11) : PM v 4 b v := Or.inr (Or.inr (Or.inr (Or.inr (Or.inr (Or.inl ⟨rfl, rfl, hb⟩)))))
theorem PM.claim {v : Nat} (b : Int) (hb : b = 6 ∨ b = 9) : PM v 5 b v := Or.inr (Or.inr (Or.inr (Or.inr (Or.inr (Or.inr (Or.inl ⟨rfl, rfl, hb⟩))))))
theorem PM.wait {v : Nat} (b : Int) (hb : b = 7 ∨ b = 6 ∨ b = 10) : PM v 6 b v := Or.inr (Or.inr (Or.inr (Or.inr (Or.inr (Or.inr (Or.inr (Or.inl ⟨rfl, rfl, hb⟩)))))))
theorem PM.down {v : Nat} (a nd : Int) (ha : a = 7 ∨ a = 8 ∨ a = 11) (hn : nd / 2 = v) : PM v a 0 nd := Or.inr (Or.inr (Or.inr (Or.inr (Or.inr (Or.inr (Or.inr (Or.inr (Or.inl ⟨rfl, ha, hn⟩))))))))
theorem PM.out {v : Nat} (a : Int) (ha : a = 7 ∨ a = 8) : PM v a 19 v := Or.inr (Or.inr (Or.inr (Or.inr (Or.inr (Or.inr (Or.inr (Or.inr (Or.inr (Or.inl ⟨rfl, rfl, ha⟩)))))))))
theorem PM.grow {v : Nat} : PM v 8 9 v := Or.inr (Or.inr (Or.inr (Or.inr (Or.inr (Or.inr (Or.inr (Or.inr (Or.inr (Or.inr (Or.inl ⟨rfl, rfl, rfl⟩))))))))))
theorem PM.width {v : Nat} (a : Int) (ha : a = 9 ∨ a = 10) : PM v a 11 v := Or.inr (Or.inr (Or.inr (Or.inr (Or.inr (Or.inr (Or.inr (Or.inr (Or.inr (Or.inr (Or.inr (Or.inl ⟨rfl, rfl, ha⟩)))))))))))
theorem PM.ticket {v : Nat} (b : Int) (hb : b = 19 ∨ b = 13 ∨ b = 14) : PM v 12 b v := Or.inr (Or.inr (Or.inr (Or.inr (Or.inr (Or.inr (Or.inr (Or.inr (Or.inr (Or.inr (Or.inr (Or.inr (Or.inl ⟨rfl, rfl, hb⟩))))))))))))
theorem PM.store {v : Nat} (b : Int) (hb : b = 19 ∨ b = 13) : PM v 13 b v := Or.inr (Or.inr (Or.inr (Or.inr (Or.inr (Or.inr (Or.inr (Or.inr (Or.inr (Or.inr (Or.inr (Or.inr (Or.inr (Or.inl ⟨rfl, rfl, hb⟩)))))))))))))
theorem PM.fetch {v : Nat} (b : Int) (hb : b = 19 ∨ b = 14) : PM v 14 b v := Or.inr (Or.inr (Or.inr (Or.inr (Or.inr (Or.inr (Or.inr (Or.inr (Or.inr (Or.inr (Or.inr (Or.inr (Or.inr (Or.inr (Or.inl ⟨rfl, rfl, hb⟩))))))))))))))
theorem PM.shut {v : Nat} : PM v 15 16 v := Or.inr (Or.inr (Or.inr (Or.inr (Or.inr (Or.inr (Or.inr (Or.inr (Or.inr (Or.inr (Or.inr (Or.inr (Or.inr (Or.inr (Or.inr (Or.inl ⟨rfl, rfl, rfl⟩)))))))))))))))
theorem PM.drain {v : Nat} (b : Int) (hb : b = 17 ∨ b = 16 ∨ b = 18) : PM v 16 b v := Or.inr (Or.inr (Or.inr (Or.inr (Or.inr (Or.inr (Or.inr (Or.inr (Or.inr (Or.inr (Or.inr (Or.inr (Or.inr (Or.inr (Or.inr (Or.inr (Or.inl ⟨rfl, rfl, hb⟩))))))))))))))))
theorem PM.up {v : Nat} (a : Int) (ha : a = 15 ∨ a = 17 ∨ a = 18 ∨ a = 19) (hv : (v : Int) / 2 ≠ 0) : PM v a 19 ((v : Int) / 2) := Or.inr (Or.inr (Or.inr (Or.inr (Or.inr (Or.inr (Or.inr (Or.inr (Or.inr (Or.inr (Or.inr (Or.inr (Or.inr (Or.inr (Or.inr (Or.inr (Or.inr (Or.inl ⟨rfl, rfl, ha, hv⟩)))))))))))))))))
theorem PM.done {v : Nat} (a : Int) (ha : a = 15 ∨ a = 17 ∨ a = 18 ∨ a = 19) (hv : (v : Int) / 2 = 0) : PM v a 20 0 := Or.inr (Or.inr (Or.inr (Or.inr (Or.inr (Or.inr (Or.inr (Or.inr (Or.inr (Or.inr (Or.inr (Or.inr (Or.inr (Or.inr (Or.inr (Or.inr (Or.inr (Or.inr (⟨rfl, rfl, ha, hv⟩))))))))))))))))))
theorem PM.elim {v : Nat} {motive : ∀ a b nd, PM v a b nd → Prop} (enter : motive 0 1 v (PM.enter)) (look : ∀ (b : Int) (hb : b = 2 ∨ b = 3 ∨ b = 12 ∨ b = 19), motive 1 b v (PM.look b hb)) (lookDown : ∀ (b nd : Int) (hb : b = 0 ∨ b = 15) (hn : nd / 2 = v), motive 1 b nd (PM.lookDown b nd hb hn)) (back : motive 2 0 v (PM.back)) (wide : motive 3 4 v (PM.wide)) (slot : ∀ (b : Int) (hb : b = 5 ∨ b = 8 ∨ b = 11), motive 4 b v (PM.slot b hb)) (claim : ∀ (b : Int) (hb : b = 6 ∨ b = 9), motive 5 b v (PM.claim b hb)) (wait : ∀ (b : Int) (hb : b = 7 ∨ b = 6 ∨ b = 10), motive 6 b v (PM.wait b hb)) (down : ∀ (a nd : Int) (ha : a = 7 ∨ a = 8 ∨ a = 11) (hn : nd / 2 = v), motive a 0 nd (PM.down a nd ha hn)) (out : ∀ (a : Int) (ha : a = 7 ∨ a = 8), motive a 19 v (PM.out a ha)) (grow : motive 8 9 v (PM.grow)) (width : ∀ (a : Int) (ha : a = 9 ∨ a = 10), motive a 11 v (PM.width a ha)) (ticket : ∀ (b : Int) (hb : b = 19 ∨ b = 13 ∨ b = 14), motive 12 b v (PM.ticket b hb)) (store : ∀ (b : Int) (hb : b = 19 ∨ b = 13), motive 13 b v (PM.store b hb)) (fetch : ∀ (b : Int) (hb : b = 19 ∨ b = 14), motive 14 b v (PM.fetch b hb)) (shut : motive 15 16 v (PM.shut)) (drain : ∀ (b : Int) (hb : b = 17 ∨ b = 16 ∨ b = 18), motive 16 b v (PM.drain b hb)) (up : ∀ (a : Int) (ha : a = 15 ∨ a = 17 ∨ a = 18 ∨ a = 19) (hv : (v : Int) / 2 ≠ 0), motive a 19 ((v : Int) / 2) (PM.up a ha hv)) (done : ∀ (a : Int) (ha : a = 15 ∨ a = 17 ∨ a = 18 ∨ a = 19) (hv : (v : Int) / 2 = 0), motive a 20 0 (PM.done a ha hv)) {a b nd : Int} (h : PM v a b nd) : motive a b nd h := by
  rcases h with ⟨rfl, rfl, rfl⟩ | ⟨rfl, rfl, hb⟩ | ⟨rfl, hb, hn⟩ | ⟨rfl, rfl, rfl⟩ | ⟨rfl, rfl, rfl⟩ | ⟨rfl, rfl, hb⟩ | ⟨rfl, rfl, hb⟩ | ⟨rfl, rfl, hb⟩ | ⟨rfl, ha, hn⟩ | ⟨rfl, rfl, ha⟩ | ⟨rfl, rfl, rfl⟩ | ⟨rfl, rfl, ha⟩ | ⟨rfl, rfl, hb⟩ | ⟨rfl, rfl, hb⟩ | ⟨rfl, rfl, hb⟩ | ⟨rfl, rfl, rfl⟩ | ⟨rfl, rfl, hb⟩ | ⟨rfl, rfl, ha, hv⟩ | ⟨rfl, rfl, ha, hv⟩
  · exact enter
  · exact look _ hb
  · exact lookDown _ _ hb hn
  · exact back
  · exact wide
  · exact slot _ hb
  · exact claim _ hb
  · exact wait _ hb
  · exact down _ _ ha hn
  · exact out _ ha
  · exact grow
  · exact width _ ha
  · exact ticket _ hb
  · exact store _ hb
  · exact fetch _ hb
  · exact shut
  · exact drain _ hb
  · exact up _ ha hv
  · exact done _ ha hv
theorem PM.of {v : Nat} {a b nd a' b' nd' : Int} (h : PM v a b nd) (ea : a' = a) (eb : b' = b) (en : nd' = nd) : PM v a' b' nd' := by subst ea eb en; exact h

structure Went (L : Lay) (i v : Nat) (p p' : Pr) (L' : Lay) : Prop where
  procs : toPPs L'.procs = (toPPs L.procs).set i (toPP p')
  hist : ∀ u, u ≠ v → (p.phase = 17 → u ≠ 2 * v ∧ u ≠ 2 * v + 1) → L'.hist u = L.hist u
  past : L'.past.length = L.past.length
  c : L'.c = L.c
  op : p'.kind = p.kind ∧ p'.oval = p.oval ∧ p'.onode = p.onode
  pm : PM v p.phase p'.phase p'.node
  slot : (p.phase ≠ 3 ∧ p'.slot = p.slot) ∨ (0 ≤ p'.slot ∧ p'.slot < L.c.width)

theorem toPPs_setP (L : Lay) (i : Nat) (p : Pr) : toPPs (L.setP i p).procs = (toPPs L.procs).set i (toPP p) := by simp [toPPs, List.map_set]
theorem hap_len (L : Lay) (v : Nat) (x : Value) (ev : Ev) (iv : Value) : (L.hap v x ev iv).past.length = L.past.length := by simp

section
variable {c : Conf} {L : Lay} {P : PLay} {i v : Nat} {p : Pr} {n : PN}

theorem went_set (q p' : Pr) (hop : p'.kind = p.kind ∧ p'.oval = p.oval ∧ p'.onode = p.onode) (hpm : PM v p.phase p'.phase p'.node) (hsl : (p.phase ≠ 3 ∧ p'.slot = p.slot) ∨ (0 ≤ p'.slot ∧ p'.slot < L.c.width)) : Went L i v p p' ((L.setP i q).setP i p') :=
  ⟨by rw [toPPs_setP, toPPs_setP, List.set_set], fun _ _ _ => rfl, rfl, rfl, hop, hpm, hsl⟩
theorem went_stay (p' : Pr) (hop : p'.kind = p.kind ∧ p'.oval = p.oval ∧ p'.onode = p.onode) (hpm : PM v p.phase p'.phase p'.node) (hsl : (p.phase ≠ 3 ∧ p'.slot = p.slot) ∨ (0 ≤ p'.slot ∧ p'.slot < L.c.width)) : Went L i v p p' (L.setP i p') :=
  ⟨toPPs_setP _ _ _, fun _ _ _ => rfl, rfl, rfl, hop, hpm, hsl⟩
theorem went_hap (hv : v < L.past.length) (q p' : Pr) (x : Value) (ev : Ev) (iv : Value) (hop : p'.kind = p.kind ∧ p'.oval = p.oval ∧ p'.onode = p.onode) (hpm : PM v p.phase p'.phase p'.node) (hsl : (p.phase ≠ 3 ∧ p'.slot = p.slot) ∨ (0 ≤ p'.slot ∧ p'.slot < L.c.width)) : Went L i v p p' (((L.setP i q).hap v x ev iv).setP i p') :=
  ⟨by rw [toPPs_setP]; show (toPPs (L.setP i q).procs).set i _ = _; rw [toPPs_setP, List.set_set], fun u hu _ => by
    have := hist_hap (L.setP i q) v u x ev iv hv
    rw [if_neg hu] at this
    exact this, by simp, rfl, hop, hpm, hsl⟩
theorem went_meet {j : Nat} (q p' y y' : Pr) (hj : j < L.procs.length) (hy : (L.procs[j]).2 = y) (hyy : toPP y' = toPP y) (hji : j ≠ i) (hop : p'.kind = p.kind ∧ p'.oval = p.oval ∧ p'.onode = p.onode) (hpm : PM v p.phase p'.phase p'.node) (hsl : (p.phase ≠ 3 ∧ p'.slot = p.slot) ∨ (0 ≤ p'.slot ∧ p'.slot < L.c.width)) : Went L i v p p' (((L.setP i q).setP j y').setP i p') := by
  refine ⟨?_, fun _ _ _ => rfl, rfl, rfl, hop, hpm, hsl⟩
  rw [toPPs_setP, toPPs_setP, toPPs_setP, hyy]
  have e : toPP y = (toPPs L.procs)[j]'(by simpa [toPPs] using hj) := by simp [toPPs, hy]
  rw [List.set_comm _ _ hji, List.set_set, List.set_comm _ _ (Ne.symm hji), e, List.set_getElem_self]

theorem Here.kidtw (h : Here c L P i v p n) (ck : CK c L P) (hph : p.phase = 1) (hk : ¬ p.kind < 3) : (((towards 6 p.onode.toNat v : Nat) : Int)) / 2 = (v : Int) := by
  have hq := ck.ci.cq i h.hi
  rw [h.ep] at hq
  obtain ⟨a1, a2, a3⟩ := hq.chg (by omega)
  have hcf := h.rel.confs
  have hlt : p.onode.toNat < 32 := by
    have : 2 ^ c.depth.toNat ≤ 2 ^ 4 := Nat.pow_le_pow_right (by omega) (by omega)
    omega
  have hab : above v p.onode.toNat := by
    rcases a3 with a3 | a3 | a3
    · rw [h.toNat] at a3
      exact a3.2
    · omega
    · omega
  have := (tw_facts ⟨p.onode.toNat, hlt⟩ ⟨v, h.v32⟩ h.v1 hab).2.2.1
  simp only at this
  omega

theorem ite_look (q : Prop) [Decidable q] : (if q then (3 : Int) else 12) = 2 ∨ (if q then (3 : Int) else 12) = 3 ∨ (if q then (3 : Int) else 12) = 12 ∨ (if q then (3 : Int) else 12) = 19 := by split <;> simp
theorem ite_down (q : Prop) [Decidable q] : (if q then (15 : Int) else 0) = 0 ∨ (if q then (15 : Int) else 0) = 15 := by split <;> simp

theorem settled_pm (q y : Pr) (b : Int) (hb : b = 0 ∨ b = 1) (hn : q.node = (v : Int)) (a : Int) (ha : a = 7 ∨ a = 8) : (settledPr q y b).kind = q.kind ∧ (settledPr q y b).oval = q.oval ∧ (settledPr q y b).onode = q.onode ∧ PM v a (settledPr q y b).phase (settledPr q y b).node ∧ (settledPr q y b).slot = q.slot := by
  unfold settledPr
  split
  · exact ⟨rfl, rfl, rfl, .down a _ (by omega) (by show (2 * q.node + b) / 2 = (v : Int); omega), rfl⟩
  · split
    · exact ⟨rfl, rfl, rfl, (PM.out a ha).of rfl rfl hn, rfl⟩
    · exact ⟨rfl, rfl, rfl, (PM.out a ha).of rfl rfl hn, rfl⟩

theorem up_pm (q : Pr) (hn : q.node = (v : Int)) (a : Int) (ha : a = 15 ∨ a = 17 ∨ a = 18 ∨ a = 19) : PM v a (upPr q).phase (upPr q).node := by
  unfold upPr
  simp only
  rw [hn]
  by_cases e : (v : Int) / 2 = 0
  · rw [if_pos e, e]; exact .done a ha e
  · rw [if_neg e]; exact .up a ha e

theorem Here.went (h : Here c L P i v p n) (ck : CK c L P) (draw : Int) : ∃ p', Went L i v p p' (lstep L i draw) := by
  have hv := h.vN
  have ha := h.at'
  have hph := h.q.phase
  have hlive := h.live
  rw [h.lat draw, h.lget]
  simp only
  have hcases : p.phase = 0 ∨ p.phase = 1 ∨ p.phase = 2 ∨ p.phase = 3 ∨ p.phase = 4 ∨ p.phase = 5 ∨ p.phase = 6 ∨ p.phase = 7 ∨ p.phase = 15 ∨ p.phase = 16 ∨ p.phase = 18 ∨ p.phase = 19 ∨ p.phase = 8 ∨ p.phase = 9 ∨ p.phase = 10 ∨ p.phase = 11 ∨ p.phase = 12 ∨ p.phase = 13 ∨ p.phase = 14 ∨ p.phase = 17 := by omega
  have hmv : p.phase ≠ 8 ∧ p.phase ≠ 9 ∧ p.phase ≠ 10 ∧ p.phase ≠ 11 ∧ p.phase ≠ 12 ∧ p.phase ≠ 13 ∧ p.phase ≠ 14 ∧ p.phase ≠ 17 → ((lmove (L.setP i (incPr p)) v (incPr p) draw).kind = p.kind ∧ (lmove (L.setP i (incPr p)) v (incPr p) draw).oval = p.oval ∧ (lmove (L.setP i (incPr p)) v (incPr p) draw).onode = p.onode) ∧ PM v p.phase (lmove (L.setP i (incPr p)) v (incPr p) draw).phase (lmove (L.setP i (incPr p)) v (incPr p) draw).node ∧ ((p.phase ≠ 3 ∧ (lmove (L.setP i (incPr p)) v (incPr p) draw).slot = p.slot) ∨ (0 ≤ (lmove (L.setP i (incPr p)) v (incPr p) draw).slot ∧ (lmove (L.setP i (incPr p)) v (incPr p) draw).slot < L.c.width)) := by
    intro hno
    unfold lmove
    have ein : (incPr p).phase = p.phase := rfl
    rw [ein]
    by_cases e0 : p.phase = 0
    · rw [if_pos e0]
      exact ⟨⟨rfl, rfl, rfl⟩, PM.enter.of e0 rfl ha, Or.inl ⟨by omega, rfl⟩⟩
    rw [if_neg e0]
    by_cases e1 : p.phase = 1
    · rw [if_pos e1]
      split
      · exact ⟨⟨rfl, rfl, rfl⟩, (PM.look 2 (by omega)).of e1 rfl ha, Or.inl ⟨by omega, rfl⟩⟩
      · split
        · exact ⟨⟨rfl, rfl, rfl⟩, (PM.look _ (ite_look _)).of e1 rfl ha, Or.inl ⟨by omega, rfl⟩⟩
        · rename_i hk3
          split
          · have hkd := h.kidtw ck e1 hk3
            exact ⟨⟨rfl, rfl, rfl⟩, (PM.lookDown (v := v) _ _ (ite_down _) hkd).of e1 rfl rfl, Or.inl ⟨by omega, rfl⟩⟩
          · exact ⟨⟨rfl, rfl, rfl⟩, (PM.look 19 (by omega)).of e1 rfl ha, Or.inl ⟨by omega, rfl⟩⟩
    rw [if_neg e1]
    by_cases e2 : p.phase = 2
    · rw [if_pos e2]
      exact ⟨⟨rfl, rfl, rfl⟩, PM.back.of e2 rfl ha, Or.inl ⟨by omega, rfl⟩⟩
    rw [if_neg e2]
    by_cases e3 : p.phase = 3
    · rw [if_pos e3]
      have hf := h.inner (by omega) (by omega)
      obtain ⟨_, _, hw1, hw2, hw3, _⟩ := h.nr.inn hf
      have hc := h.rel.cL
      have ew : widthH ((L.setP i (incPr p)).hist v) = widthH (L.hist v) := rfl
      refine ⟨⟨rfl, rfl, rfl⟩, PM.wide.of e3 rfl ha, Or.inr ⟨?_, ?_⟩⟩
      · exact Int.emod_nonneg _ (by rw [ew]; omega)
      · rw [hc]
        have := Int.emod_lt_of_pos draw (show 0 < widthH (L.hist v) by omega)
        show draw % widthH (L.hist v) < c.width
        omega
    rw [if_neg e3]
    by_cases e4 : p.phase = 4
    · rw [if_pos e4]
      split
      · exact ⟨⟨rfl, rfl, rfl⟩, (PM.slot 5 (by omega)).of e4 rfl ha, Or.inl ⟨by omega, rfl⟩⟩
      · rename_i hw
        obtain ⟨k, hk, hs⟩ := h.slotk
        have hf := h.inner (by omega) (by omega)
        have hwl := (h.inc.slotRel hf hk).waits
        have hsr := h.inc.slotRel hf hk
        have hlt : ∃ j : Nat, waitsL v (incPr p).slot (L.setP i (incPr p)).procs 0 = (j : Int) ∧ j < (L.setP i (incPr p)).procs.length := by
          have es : (incPr p).slot = (k : Int) := hs
          rw [es] at hw ⊢
          rcases hsr with ⟨s0, _⟩ | ⟨j, hj, a1, _, _, a4⟩
          · rcases hwl with ⟨_, x⟩ | ⟨x, _⟩
            · rw [x] at hw; omega
            · omega
          · rcases hwl with ⟨x, _⟩ | ⟨_, x⟩
            · rcases a4 with a4 | a4 <;> omega
            · exact ⟨j, by rw [x, a1], hj⟩
        obtain ⟨j, hj, hjl⟩ := hlt
        rw [hj, Int.toNat_natCast, List.getElem?_eq_getElem hjl]
        simp only
        split
        · exact ⟨⟨rfl, rfl, rfl⟩, (PM.slot 11 (by omega)).of e4 rfl ha, Or.inl ⟨by omega, rfl⟩⟩
        · exact ⟨⟨rfl, rfl, rfl⟩, (PM.slot 8 (by omega)).of e4 rfl ha, Or.inl ⟨by omega, rfl⟩⟩
    rw [if_neg e4]
    by_cases e5 : p.phase = 5
    · rw [if_pos e5]
      split
      · exact ⟨⟨rfl, rfl, rfl⟩, (PM.claim 6 (by omega)).of e5 rfl ha, Or.inl ⟨by omega, rfl⟩⟩
      · exact ⟨⟨rfl, rfl, rfl⟩, (PM.claim 9 (by omega)).of e5 rfl ha, Or.inl ⟨by omega, rfl⟩⟩
    rw [if_neg e5]
    by_cases e6 : p.phase = 6
    · rw [if_pos e6]
      unfold waitPr
      split
      · exact ⟨⟨rfl, rfl, rfl⟩, (PM.wait 7 (by omega)).of e6 rfl ha, Or.inl ⟨by omega, rfl⟩⟩
      · split
        · exact ⟨⟨rfl, rfl, rfl⟩, (PM.wait 6 (by omega)).of e6 e6 ha, Or.inl ⟨by omega, rfl⟩⟩
        · exact ⟨⟨rfl, rfl, rfl⟩, (PM.wait 10 (by omega)).of e6 rfl ha, Or.inl ⟨by omega, rfl⟩⟩
    rw [if_neg e6]
    by_cases e7 : p.phase = 7
    · rw [if_pos e7]
      have hf := h.inner (by omega) (by omega)
      obtain ⟨k, hk, hs⟩ := h.slotk
      obtain ⟨_, hm⟩ := h.mine (Or.inr e7) hk hs hf
      rcases hm with ⟨_, x, _⟩ | ⟨s2, b, by1, m2, hb, hbi⟩
      · omega
      have hb1 : b < (L.setP i (incPr p)).procs.length := by simpa using hb
      have em : (incPr p).met = (b : Int) := m2
      rw [em, Int.toNat_natCast, List.getElem?_eq_getElem hb1]
      simp only
      obtain ⟨x1, x2, x3, x4, x5⟩ := settled_pm (v := v) { incPr p with met := -1 } ((L.setP i (incPr p)).procs[b]).2 0 (Or.inl rfl) ha 7 (Or.inl rfl)
      exact ⟨⟨x1, x2, x3⟩, by rw [e7]; exact x4, Or.inl ⟨by omega, x5⟩⟩
    rw [if_neg e7]
    by_cases e15 : p.phase = 15
    · rw [if_pos e15]
      unfold shutCh
      split
      · exact ⟨⟨rfl, rfl, rfl⟩, up_pm _ (by exact ha) _ (by omega), Or.inl ⟨by omega, rfl⟩⟩
      · exact ⟨⟨rfl, rfl, rfl⟩, PM.shut.of e15 rfl ha, Or.inl ⟨by omega, rfl⟩⟩
    rw [if_neg e15]
    by_cases e16 : p.phase = 16
    · rw [if_pos e16]
      unfold drainCh
      split
      · exact ⟨⟨rfl, rfl, rfl⟩, (PM.drain 17 (by omega)).of e16 rfl ha, Or.inl ⟨by omega, rfl⟩⟩
      · split
        · exact ⟨⟨rfl, rfl, rfl⟩, (PM.drain 16 (by omega)).of e16 e16 ha, Or.inl ⟨by omega, rfl⟩⟩
        · exact ⟨⟨rfl, rfl, rfl⟩, (PM.drain 18 (by omega)).of e16 rfl ha, Or.inl ⟨by omega, rfl⟩⟩
    rw [if_neg e16]
    by_cases e18 : p.phase = 18
    · rw [if_pos e18]
      exact ⟨⟨rfl, rfl, rfl⟩, up_pm _ (by exact ha) _ (by omega), Or.inl ⟨by omega, rfl⟩⟩
    rw [if_neg e18]
    have e19 : p.phase = 19 := by omega
    rw [if_pos e19]
    exact ⟨⟨rfl, rfl, rfl⟩, up_pm _ (by exact ha) _ (by omega), Or.inl ⟨by omega, rfl⟩⟩
  by_cases e8 : p.phase = 8
  · rw [if_pos e8]
    obtain ⟨j, mj, hj, hji⟩ := h.q.mind e8
    rw [mj, Int.toNat_natCast, List.getElem?_eq_getElem hj]
    simp only
    split
    · obtain ⟨x1, x2, x3, x4, x5⟩ := settled_pm (v := v) (incPr p) (L.procs[j]).2 1 (Or.inr rfl) ha 8 (Or.inr rfl)
      exact ⟨_, went_meet _ _ (L.procs[j]).2 _ hj rfl rfl hji ⟨x1, x2, x3⟩ (by rw [e8]; exact x4) (Or.inl ⟨by omega, x5⟩)⟩
    · exact ⟨_, went_set _ _ ⟨rfl, rfl, rfl⟩ (PM.grow.of e8 rfl ha) (Or.inl ⟨by omega, rfl⟩)⟩
  rw [if_neg e8]
  by_cases e9 : p.phase = 9
  · rw [if_pos e9]
    exact ⟨_, went_hap hv _ _ _ _ _ ⟨rfl, rfl, rfl⟩ ((PM.width 9 (by omega)).of e9 rfl ha) (Or.inl ⟨by omega, rfl⟩)⟩
  rw [if_neg e9]
  by_cases e10 : p.phase = 10
  · rw [if_pos e10]
    exact ⟨_, went_hap hv _ _ _ _ _ ⟨rfl, rfl, rfl⟩ ((PM.width 10 (by omega)).of e10 rfl ha) (Or.inl ⟨by omega, rfl⟩)⟩
  rw [if_neg e10]
  by_cases e11 : p.phase = 11
  · rw [if_pos e11]
    refine ⟨_, went_hap hv _ _ _ _ _ ⟨rfl, rfl, rfl⟩ ?_ (Or.inl ⟨by omega, rfl⟩)⟩
    have ht : togH (L.hist v) = 0 ∨ togH (L.hist v) = 1 := by unfold togH; omega
    have hk : ∀ t : Int, t = 0 ∨ t = 1 → (2 * p.node + t) / 2 = (v : Int) := by intro t ht; omega
    have htt : (if p.kind = 2 then (togH (L.hist v) + 1) % 2 else togH (L.hist v)) = 0 ∨ (if p.kind = 2 then (togH (L.hist v) + 1) % 2 else togH (L.hist v)) = 1 := by split <;> omega
    exact (PM.down (v := v) 11 _ (by omega) (hk _ htt)).of e11 rfl rfl
  rw [if_neg e11]
  by_cases e12 : p.phase = 12
  · rw [if_pos e12]
    split
    · exact ⟨_, went_hap hv _ _ _ _ _ ⟨rfl, rfl, rfl⟩ ((PM.ticket 19 (by omega)).of e12 rfl ha) (Or.inl ⟨by omega, rfl⟩)⟩
    · split
      · exact ⟨_, went_hap hv _ _ _ _ _ ⟨rfl, rfl, rfl⟩ ((PM.ticket 13 (by omega)).of e12 rfl ha) (Or.inl ⟨by omega, rfl⟩)⟩
      · exact ⟨_, went_hap hv _ _ _ _ _ ⟨rfl, rfl, rfl⟩ ((PM.ticket 14 (by omega)).of e12 rfl ha) (Or.inl ⟨by omega, rfl⟩)⟩
  rw [if_neg e12]
  by_cases e13 : p.phase = 13
  · rw [if_pos e13]
    split
    · exact ⟨_, went_hap hv _ _ _ _ _ ⟨rfl, rfl, rfl⟩ ((PM.store 19 (by omega)).of e13 rfl ha) (Or.inl ⟨by omega, rfl⟩)⟩
    · exact ⟨_, went_stay _ ⟨rfl, rfl, rfl⟩ ((PM.store 13 (by omega)).of e13 e13 ha) (Or.inl ⟨by omega, rfl⟩)⟩
  rw [if_neg e13]
  by_cases e14 : p.phase = 14
  · rw [if_pos e14]
    split
    · exact ⟨_, went_hap hv _ _ _ _ _ ⟨rfl, rfl, rfl⟩ ((PM.fetch 19 (by omega)).of e14 rfl ha) (Or.inl ⟨by omega, rfl⟩)⟩
    · exact ⟨_, went_stay _ ⟨rfl, rfl, rfl⟩ ((PM.fetch 14 (by omega)).of e14 e14 ha) (Or.inl ⟨by omega, rfl⟩)⟩
  rw [if_neg e14]
  by_cases e17 : p.phase = 17
  · rw [if_pos e17]
    have hk : 2 * v + 1 < L.past.length := (h.target17 ck e17).kid
    split
    · refine ⟨upPr { incPr p with val := 1 }, by rw [toPPs_setP]; show (toPPs (L.setP i (incPr p)).procs).set i _ = _; rw [toPPs_setP, List.set_set], fun u hu hu2 => ?_, by simp, rfl, ⟨rfl, rfl, rfl⟩, up_pm { incPr p with val := 1 } (by exact ha) p.phase (by omega), Or.inl ⟨by omega, rfl⟩⟩
      obtain ⟨u1, u2⟩ := hu2 e17
      show ((L.setP i (incPr p)).unfolded v nilV nilV nilV nilV nilV).hist u = L.hist u
      unfold Lay.unfolded
      rw [hap_hist _ _ _ _ _ _ (by simp; omega) u2, hap_hist _ _ _ _ _ _ (by simp; omega) u1, hap_hist _ _ _ _ _ _ (by exact hv) hu]
      rfl
    · split
      · exact ⟨_, went_set _ _ ⟨rfl, rfl, rfl⟩ (up_pm _ (by exact ha) _ (by omega)) (Or.inl ⟨by omega, rfl⟩)⟩
      · refine ⟨upPr { incPr p with val := 1 }, by rw [toPPs_setP]; show (toPPs (L.setP i (incPr p)).procs).set i _ = _; rw [toPPs_setP, List.set_set], fun u hu hu2 => ?_, by simp, rfl, ⟨rfl, rfl, rfl⟩, up_pm { incPr p with val := 1 } (by exact ha) p.phase (by omega), Or.inl ⟨by omega, rfl⟩⟩
        obtain ⟨u1, u2⟩ := hu2 e17
        show ((L.setP i (incPr p)).folded v nilV nilV nilV nilV).hist u = L.hist u
        unfold Lay.folded
        rw [hap_hist _ _ _ _ _ _ (by simp; omega) (by assumption), hap_hist _ _ _ _ _ _ (by simp; omega) (by assumption), hap_hist _ _ _ _ _ _ (by simp; omega) (by assumption)]
        rfl
  rw [if_neg e17]
  obtain ⟨m1, m2, m3⟩ := hmv ⟨e8, e9, e10, e11, e12, e13, e14, e17⟩
  exact ⟨_, went_set _ _ m1 m2 m3⟩
end

theorem PM.behind {v : Nat} {a b nd : Int} (h : PM v a b nd) : amongTo b (behindL a) = true := by
  cases h using PM.elim with
  | enter => decide
  | look b hb => rcases hb with rfl | rfl | rfl | rfl <;> decide
  | lookDown b nd hb hn => rcases hb with rfl | rfl <;> decide
  | back => decide
  | wide => decide
  | slot b hb => rcases hb with rfl | rfl | rfl <;> decide
  | claim b hb => rcases hb with rfl | rfl <;> decide
  | wait b hb => rcases hb with rfl | rfl | rfl <;> decide
  | down a nd ha hn => rcases ha with rfl | rfl | rfl <;> decide
  | out a ha => rcases ha with rfl | rfl <;> decide
  | grow => decide
  | width a ha => rcases ha with rfl | rfl <;> decide
  | ticket b hb => rcases hb with rfl | rfl | rfl <;> decide
  | store b hb => rcases hb with rfl | rfl <;> decide
  | fetch b hb => rcases hb with rfl | rfl <;> decide
  | shut => decide
  | drain b hb => rcases hb with rfl | rfl | rfl <;> decide
  | up a ha hv => rcases ha with rfl | rfl | rfl | rfl <;> decide
  | done a ha hv => rcases ha with rfl | rfl | rfl | rfl <;> decide

end Go.Proofs.Ytjnmpejcegmkhab

namespace Go.Proofs.Ytjnmpejcegmkhab
open Go.RowKit

/-- The document's tree, what was begun, who has stepped. -/
structure Gh where
  L : Lay
  ops : List Op3
  went : List Bool

def phaseAt (L : Lay) (i : Nat) : Int := (L.procs.getD i (0, newPr ⟨0, 0, 0⟩)).2.phase
def gspawn (c : Conf) (S : Gh) (o : Op3) : Gh :=
  letI := okOpDec c o; if okOp c o ∧ S.L.procs.length < 256 ∧ (liveL S.L.procs : Int) < c.procs then ⟨{ S.L with procs := S.L.procs ++ [(0, newPr o)] }, S.ops ++ [o], S.went ++ [false]⟩ else S
def gstep (S : Gh) (p draw : Int) : Gh :=
  if 0 ≤ p ∧ p < S.L.procs.length ∧ phaseAt S.L p.toNat ≠ 20 then ⟨lstep S.L p.toNat draw, S.ops, S.went.set p.toNat true⟩ else S
def ppOp (q : PP) : Op3 := ⟨q.kind, q.oval, q.onode⟩
def opsL (L : Lay) : List Op3 := (toPPs L.procs).map ppOp

/-- Who is about a slot is about one that there is. -/
def SlotOk (L : Lay) : Prop := ∀ i, (hi : i < L.procs.length) → 4 ≤ (L.procs[i]).2.phase → (L.procs[i]).2.phase ≤ 10 → 0 ≤ (L.procs[i]).2.slot ∧ (L.procs[i]).2.slot < L.c.width

/-- A process that has not stepped is as it was begun; each is of the operation that was begun. -/
structure OpsOf (S : Gh) : Prop where
  wlen : S.went.length = S.L.procs.length
  op : S.ops = opsL S.L
  slot : SlotOk S.L
  new : ∀ i, (hi : i < S.L.procs.length) → (hi' : i < S.went.length) → S.went[i] = false → (S.L.procs[i]).2.phase = (newPr ⟨(S.L.procs[i]).2.kind, (S.L.procs[i]).2.oval, (S.L.procs[i]).2.onode⟩).phase ∧ (S.L.procs[i]).2.node = 1 ∧ (S.L.procs[i]).2.val = 0

structure KSt (w : World) (B hb : Nat) (c : Conf) (S : Gh) (P : PLay) : Prop where
  rep : KRep w B hb P S.ops S.went
  rel : CRel c S.L P
  hB : B ≤ w.heap.size
  of : OpsOf S

theorem KSt.below {w w' : World} {B hb : Nat} {c : Conf} {S : Gh} {P : PLay} (h : KSt w B hb c S P) (hb' : Below w.heap.size w w') : KSt w' B hb c S P :=
  ⟨h.rep.below hb', h.rel, Nat.le_trans h.hB hb'.size, h.of⟩
theorem KSt.deep {w : World} {B hb : Nat} {c : Conf} {S : Gh} {P : PLay} (h : KSt w B hb c S P) : 0 ≤ P.c.depth ∧ P.c.depth ≤ 4 := by
  have := h.rel.rel.confs
  rw [h.rel.rel.cP]
  omega
theorem KSt.told {w : World} {B hb : Nat} {c : Conf} {S : Gh} {P : PLay} (h : KSt w B hb c S P) (i : Nat) (hi : i < S.L.procs.length) : toldP P i = ((S.L.procs[i]).2.phase, (S.L.procs[i]).2.node, (S.L.procs[i]).2.val) := by
  have hp := h.rel.plen
  unfold toldP
  rw [if_pos ⟨by omega, by omega⟩, Int.toNat_natCast]
  have e : P.procs.getD i zeroPP = toPP (S.L.procs[i]).2 := by
    rw [h.rel.rel.procs, List.getD_eq_getElem?_getD, List.getElem?_map, List.getElem?_eq_getElem hi]
    rfl
  rw [e]
  rfl

abbrev KT : List TypeId := [81, 101, 108, 51, 4, 41]

theorem opsL_went {L L' : Lay} {i v : Nat} {p p' : Pr} (h : Went L i v p p' L') (hi : i < L.procs.length) (hp : (L.procs[i]).2 = p) : opsL L' = opsL L := by
  unfold opsL
  rw [h.procs, List.map_set]
  have e : ppOp (toPP p') = ((toPPs L.procs).map ppOp)[i]'(by simpa [toPPs] using hi) := by
    simp only [List.getElem_map, toPPs, hp]
    obtain ⟨a, b, d⟩ := h.op
    simp [ppOp, toPP, a, b, d]
  rw [e, List.set_getElem_self]
theorem toPPs_len (ps : Prs) : (toPPs ps).length = ps.length := by simp [toPPs]
theorem toPPs_at (ps : Prs) (j : Nat) (hj : j < ps.length) (hj' : j < (toPPs ps).length) : (toPPs ps)[j] = toPP (ps[j]).2 := by simp [toPPs]
theorem went_other {L L' : Lay} {i v : Nat} {p p' : Pr} (h : Went L i v p p' L') (j : Nat) (hj : j < L.procs.length) (hj' : j < L'.procs.length) (hji : j ≠ i) : toPP (L'.procs[j]).2 = toPP (L.procs[j]).2 := by
  rw [← toPPs_at L'.procs j hj' (by rw [toPPs_len]; exact hj'), ← toPPs_at L.procs j hj (by rw [toPPs_len]; exact hj)]
  have : ∀ (l : List PP) (hl : l = (toPPs L.procs).set i (toPP p')) (h1 : j < l.length) (h2 : j < (toPPs L.procs).length), l[j] = (toPPs L.procs)[j] := by
    intro l hl h1 h2
    subst hl
    rw [List.getElem_set_ne (Ne.symm hji)]
  exact this _ h.procs _ _
theorem went_self {L L' : Lay} {i v : Nat} {p p' : Pr} (h : Went L i v p p' L') (hi' : i < L'.procs.length) : toPP (L'.procs[i]).2 = toPP p' := by
  rw [← toPPs_at L'.procs i hi' (by rw [toPPs_len]; exact hi')]
  have : ∀ (l : List PP) (hl : l = (toPPs L.procs).set i (toPP p')) (h1 : i < l.length), l[i] = toPP p' := by
    intro l hl h1
    subst hl
    rw [List.getElem_set_self]
  exact this _ h.procs _
theorem went_len {L L' : Lay} {i v : Nat} {p p' : Pr} (h : Went L i v p p' L') : L'.procs.length = L.procs.length := by
  have := congrArg List.length h.procs
  simpa [toPPs] using this
theorem pp_told {p q : Pr} (h : toPP p = toPP q) : p.kind = q.kind ∧ p.oval = q.oval ∧ p.onode = q.onode ∧ p.phase = q.phase ∧ p.node = q.node ∧ p.val = q.val ∧ p.slot = q.slot := by
  unfold toPP at h
  simp only [PP.mk.injEq] at h
  omega

theorem slot_went {L L' : Lay} {i v : Nat} {p p' : Pr} (h : Went L i v p p' L') (hi : i < L.procs.length) (hp : (L.procs[i]).2 = p) (hs : SlotOk L) : SlotOk L' := by
  intro j hj h4 h10
  have hl := went_len h
  by_cases e : j = i
  · subst e
    obtain ⟨_, _, _, x4, _, _, x7⟩ := pp_told (went_self h hj)
    rw [x4] at h4 h10
    rw [x7, h.c]
    rcases h.slot with ⟨n3, a⟩ | ⟨a, b⟩
    · rw [a]
      have hb : 4 ≤ p.phase ∧ p.phase ≤ 10 := by
        have hpm := h.pm
        generalize p.phase = x at *
        generalize p'.phase = y at *
        generalize p'.node = z at *
        cases hpm <;> omega
      have := hs j hi (by rw [hp]; exact hb.1) (by rw [hp]; exact hb.2)
      rw [hp] at this
      exact this
    · exact ⟨a, b⟩
  · obtain ⟨_, _, _, x4, _, _, x7⟩ := pp_told (went_other h j (by omega) hj e)
    rw [x4] at h4 h10
    rw [x7, h.c]
    exact hs j (by omega) h4 h10

theorem phaseAt_eq (L : Lay) (i : Nat) (hi : i < L.procs.length) : phaseAt L i = (L.procs[i]).2.phase := by
  unfold phaseAt
  rw [List.getD_eq_getElem?_getD, List.getElem?_eq_getElem hi]
  rfl

theorem CRel.again {c : Conf} {L : Lay} {P : PLay} (h : CRel c L P) {i : Nat} (hi : i < L.procs.length) (hl : (L.procs[i]).2.phase ≠ 20) (draw : Int) : (∃ P', CRel c (lstep L i draw) P') ∧ opsL (lstep L i draw) = opsL L ∧ (SlotOk L → SlotOk (lstep L i draw)) := by
  obtain ⟨v, n, hh⟩ := h.rel.here hi hl
  obtain ⟨p', hwt⟩ := hh.went h.ck draw
  obtain ⟨_, _, _, hP⟩ := h.next (B := 0) hi hl draw
  exact ⟨hP, opsL_went hwt hi rfl, slot_went hwt hi rfl⟩

end Go.Proofs.Ytjnmpejcegmkhab

namespace Go.Proofs.Ytjnmpejcegmkhab
open Go.RowKit

/-- A new tree of the document, in no memory. -/
def newLay (c : Conf) : Lay := ⟨0, c, .slice none 0 0, [], .slice none 0 0, (List.range (2 ^ (c.depth.toNat + 1))).map fun u => (.slice none 0 0, if u = 0 then [] else newHist c.start u)⟩
theorem newLay_new (c : Conf) : NewLay c (newLay c) := by
  refine ⟨rfl, rfl, by simp [newLay], fun u h1 h2 => ?_, ?_⟩
  · have h2' : u < 2 ^ (c.depth.toNat + 1) := by simpa [newLay] using h2
    unfold Lay.hist newLay
    simp [List.getD_eq_getElem?_getD, h2']
    omega
  · unfold Lay.hist newLay
    have : 0 < 2 ^ (c.depth.toNat + 1) := Nat.two_pow_pos _
    simp [List.getD_eq_getElem?_getD, this]

theorem KSt.new {w : World} {B hb : Nat} {c : Conf} {P : PLay} (hm : mayC c = true) (h : KRep w B hb P [] []) (hp : PNew c P) (hB : B ≤ w.heap.size) : KSt w B hb c ⟨newLay c, [], []⟩ P :=
  ⟨h, crel_new hm (newLay_new c) hp h.prog.len, hB, ⟨rfl, rfl, fun _ hi => absurd hi (Nat.not_lt_zero _), fun _ hi => absurd hi (Nat.not_lt_zero _)⟩⟩

end Go.Proofs.Ytjnmpejcegmkhab
