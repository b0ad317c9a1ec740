/- The nodes that are told are a tree. No statement of the seat is proved here. The contract of package prismkeep's refusal. No statement of the seat is proved here. The contract of package prismkeep's refusal, of any operation. No statement of the seat is proved here. What a hand is behind a Spawn; the contract of package prismkeep's spawn. No statement of the seat is proved here. The contract of package prismkeep's spawn, of an Inc, a Put or a Get. No statement of the seat is proved here. The contract of package prismkeep's spawn, where the tree takes it. No statement of the seat is proved here. The contract of package prismkeep's spawn, of any operation. No statement of the seat is proved here. Contracts of package prismkeep's among and behind. No statement of the seat is proved here. The contract of package prismkeep's step, where a process that is live steps. No statement of the seat is proved here. The contract of package prismkeep's step, whoever steps. No statement of the seat is proved here. The contract of package prismkeep's rest. No statement of the seat is proved here. Rest, of the program and of the document: both take the same steps. Rest of the document. No statement of the seat is proved here. -/
import Derived.Test.YtjnmpejcegmkhabRefStA
import Derived.Test.YtjnmpejcegmkhabDBoth
import Derived.Deep.QuietTactic
import Derived.BigQuiet
import Derived.Test.YtjnmpejcegmkhabCInv
import Derived.Deep.RegionLaw
import Derived.Deep.AppendLies
import Derived.Deep.RegionWith
import Derived.Deep.DeepCutAuto
import Derived.Test.YtjnmpejcegmkhabRefB
namespace Go.Proofs.Ytjnmpejcegmkhab
open Go.RowKit
variable {Fr : Nat → Prop}

def tN (f : Nat → Bool) : Nat → Nat
  | 0 => 0
  | k + 1 => tN f k + if f k then 1 else 0
theorem tN_pair (T J : Nat → Bool) (h0 : T 0 = false) (h1 : T 1 = true) (hJ : J 0 = false) : ∀ m, (∀ k, 1 ≤ k → k < m → T (2 * k) = J k ∧ T (2 * k + 1) = J k) → 1 ≤ m → tN T (2 * m) = 1 + 2 * tN J m
  | 0, _, h => by omega
  | 1, _, _ => by simp [tN, h0, h1, hJ]
  | m + 2, hk, _ => by
    have ih := tN_pair T J h0 h1 hJ (m + 1) (fun k a b => hk k a (by omega)) (by omega)
    obtain ⟨e1, e2⟩ := hk (m + 1) (by omega) (by omega)
    have e : 2 * (m + 2) = 2 * (m + 1) + 1 + 1 := by omega
    rw [e]
    simp only [tN] at ih ⊢
    rw [e1, e2, ih]
    omega
theorem tN_ext (f : Nat → Bool) (m : Nat) : ∀ k, m ≤ k → (∀ j, m ≤ j → j < k → f j = false) → tN f k = tN f m
  | 0, h, _ => by rw [show m = 0 by omega]
  | k + 1, h, hf => by
    by_cases e : m = k + 1
    · rw [e]
    · simp only [tN]
      rw [tN_ext f m k (by omega) (fun j a b => hf j a (by omega)), hf k (by omega) (by omega)]
      simp

def isV (L : Lay) (v : Nat) : Prop := v ≠ 0 ∧ formH (L.hist v) ≠ 3
theorem rnodes_mem (L : Lay) : ∀ k (d : ND), d ∈ rnodesTo L k ↔ ∃ v, v < k ∧ isV L v ∧ d = rnode L v := by
  intro k d
  induction k with
  | zero => simp [rnodesTo]
  | succ k ih =>
    rw [rnodesTo_succ, List.mem_append, ih]
    constructor
    · rintro (⟨v, a, b⟩ | h)
      · exact ⟨v, by omega, b⟩
      · split at h
        · simp at h
        · rename_i hn
          simp only [List.mem_cons, List.not_mem_nil, or_false] at h
          exact ⟨k, by omega, ⟨fun e => hn (Or.inl e), fun e => hn (Or.inr e)⟩, h⟩
    · rintro ⟨v, a, b, e⟩
      by_cases ev : v = k
      · right
        subst ev
        rw [if_neg (by rintro (x | x); exact b.1 x; exact b.2 x), e]
        simp
      · exact Or.inl ⟨v, by omega, b, e⟩
theorem rnode_num (L : Lay) (v : Nat) : (rnode L v).num = v ∧ (rnode L v).depth = (Nat.log2 v : Int) ∧ (rnode L v).rank = (rank v : Int) ∧ (rnode L v).inner = decide (formH (L.hist v) = 1) := by
  unfold rnode
  split
  · rename_i h; simp [h]
  · rename_i h; simp [h]
theorem rnodes_rise (L : Lay) : ∀ k, (rnodesTo L k).Pairwise fun a b => a.num < b.num
  | 0 => by simp [rnodesTo]
  | k + 1 => by
    rw [rnodesTo_succ, List.pairwise_append]
    refine ⟨rnodes_rise L k, ?_, fun a ha b hb => ?_⟩
    · split <;> simp
    · obtain ⟨v, hv, _, rfl⟩ := (rnodes_mem L k a).1 ha
      split at hb
      · simp at hb
      · simp only [List.mem_cons, List.not_mem_nil, or_false] at hb
        subst hb
        rw [(rnode_num L v).1, (rnode_num L k).1]
        omega
theorem rnodes_len (L : Lay) : ∀ k, (rnodesTo L k).length = tN (fun v => decide (v ≠ 0 ∧ formH (L.hist v) ≠ 3)) k
  | 0 => rfl
  | k + 1 => by
    rw [rnodesTo_succ, List.length_append, rnodes_len L k]
    simp only [tN]
    congr 1
    by_cases h : k = 0 ∨ formH (L.hist k) = 3
    · rw [if_pos h, if_neg]
      · rfl
      · simp only [decide_eq_true_eq]
        rintro ⟨a, b⟩
        rcases h with h | h
        · exact a h
        · exact b h
    · rw [if_neg h, if_pos]
      · rfl
      · simp only [decide_eq_true_eq]
        exact ⟨fun e => h (Or.inl e), fun e => h (Or.inr e)⟩
theorem rnodes_inn (L : Lay) : ∀ k, innN (rnodesTo L k) = tN (fun v => decide (v ≠ 0 ∧ formH (L.hist v) = 1)) k
  | 0 => rfl
  | k + 1 => by
    rw [rnodesTo_succ, innN_app, rnodes_inn L k]
    simp only [tN]
    congr 1
    by_cases h : k = 0 ∨ formH (L.hist k) = 3
    · rw [if_pos h, if_neg]
      · rfl
      · simp only [decide_eq_true_eq]
        rintro ⟨a, b⟩
        rcases h with h | h
        · exact a h
        · omega
    · rw [if_neg h]
      simp only [innN, (rnode_num L k).2.2.2, Nat.add_zero, decide_eq_true_eq]
      have : k ≠ 0 := fun e => h (Or.inl e)
      simp [this]

theorem findN_mem (v : Int) : ∀ (l : List Int) (i : Nat), v ∈ l → 0 ≤ findN v l i
  | [], _, h => by simp at h
  | x :: r, i, h => by
    unfold findN
    split
    · omega
    · rename_i hx
      refine findN_mem v r (i + 1) ?_
      rcases List.mem_cons.1 h with e | e
      · exact absurd e.symm hx
      · exact e

theorem CRel.shaped {c : Conf} {L : Lay} {P : PLay} (h : CRel c L P) : ShapedL c.depth.toNat (rnodes L) := by
  have hcf := h.rel.confs
  have hl := h.rel.lenle
  have hN := h.rel.len
  have hN' : L.past.length = 2 * 2 ^ c.depth.toNat := by rw [hN, Nat.pow_succ]; omega
  have hroot := h.rel.root
  have hform : ∀ v, 1 ≤ v → v < L.past.length → formH (L.hist v) = 1 ∨ formH (L.hist v) = 2 ∨ formH (L.hist v) = 3 := fun v a b => (h.rel.nodes v a b).form
  have h1 : isV L 1 := ⟨by omega, hroot⟩
  have hm1 : rnode L 1 ∈ rnodes L := (rnodes_mem L _ _).2 ⟨1, by omega, h1, rfl⟩
  have hpos : 0 < (rnodes L).length := List.length_pos_of_mem hm1
  have hnum : ∀ v, v < L.past.length → isV L v → (v : Int) ∈ (rnodes L).map fun d => d.num := by
    intro v a b
    exact List.mem_map.2 ⟨rnode L v, (rnodes_mem L _ _).2 ⟨v, a, b, rfl⟩, (rnode_num L v).1⟩
  have hev : ∀ i, (hi : i < (rnodes L).length) → ∃ v, v < L.past.length ∧ isV L v ∧ (rnodes L)[i] = rnode L v := fun i hi => (rnodes_mem L _ _).1 (List.getElem_mem hi)
  have hrise := List.pairwise_iff_getElem.1 (rnodes_rise L L.past.length)
  refine ⟨by omega, hpos, ?_, fun hp => ?_, fun i hi => ?_, fun i hi => ?_, fun i hi hin => ?_, ?_⟩
  · have := rnodesTo_le L L.past.length
    unfold rnodes
    omega
  · obtain ⟨v, a, b, e⟩ := hev 0 hp
    obtain ⟨j, hj, ej⟩ := List.getElem_of_mem hm1
    rw [e, (rnode_num L v).1]
    have e1 : ((rnodes L)[j]).num = 1 := by rw [ej, (rnode_num L 1).1]; rfl
    have e0 : ((rnodes L)[0]).num = v := by rw [e, (rnode_num L v).1]
    by_cases ej0 : j = 0
    · subst ej0
      omega
    · have := hrise 0 j hp hj (by omega)
      have hv := b.1
      have e0' : ((rnodesTo L L.past.length)[0]).num = v := e0
      have e1' : ((rnodesTo L L.past.length)[j]).num = 1 := e1
      omega
  · obtain ⟨v, a, b, e⟩ := hev i hi
    obtain ⟨x1, x2, x3, x4⟩ := rnode_num L v
    exact ⟨v, by rw [e, x1], by have := b.1; omega, by omega, by rw [e, x2], by rw [e, x3]⟩
  · exact hrise i (i + 1) (show i < (rnodes L).length by omega) hi (by omega)
  · obtain ⟨v, a, b, e⟩ := hev i hi
    obtain ⟨x1, x2, x3, x4⟩ := rnode_num L v
    rw [e] at hin ⊢
    rw [x4] at hin
    have hf := of_decide_eq_true hin
    obtain ⟨k1, k2, k3⟩ := h.rel.kids v (by have := b.1; omega) a hf
    rw [x1]
    refine ⟨findN_mem _ _ _ ?_, findN_mem _ _ _ ?_⟩
    · have := hnum (2 * v) (by omega) ⟨by have := b.1; omega, k2⟩
      push_cast at this
      exact this
    · have := hnum (2 * v + 1) (by omega) ⟨by omega, k3⟩
      push_cast at this
      exact this
  · show 1 + 2 * innN (rnodesTo L L.past.length) = (rnodesTo L L.past.length).length
    rw [rnodes_len, rnodes_inn]
    have hp := tN_pair (fun v => decide (v ≠ 0 ∧ formH (L.hist v) ≠ 3)) (fun v => decide (v ≠ 0 ∧ formH (L.hist v) = 1)) (by simp) (by simp [hroot]) (by simp) (2 ^ c.depth.toNat) ?_ Nat.one_le_two_pow
    · rw [hN', hp]
      congr 2
      refine tN_ext _ _ _ (by omega) fun j a b => ?_
      simp only [decide_eq_false_iff_not]
      rintro ⟨j0, jf⟩
      have := (h.rel.kids j (by omega) (by omega) jf).1
      omega
    · intro k k1 k2
      have hkN : 2 * k + 1 < L.past.length := by omega
      have key : ∀ u, u / 2 = k → 2 ≤ u → u < L.past.length → (formH (L.hist k) = 1 → formH (L.hist u) ≠ 3) → decide (u ≠ 0 ∧ formH (L.hist u) ≠ 3) = decide (k ≠ 0 ∧ formH (L.hist k) = 1) := by
        intro u eu u2 uN hku
        refine decide_eq_decide.2 ⟨?_, ?_⟩
        · rintro ⟨_, b⟩
          have := h.ck.ci.par u u2 uN b
          rw [eu] at this
          exact ⟨by omega, this⟩
        · rintro ⟨_, b⟩
          exact ⟨by omega, hku b⟩
      exact ⟨key (2 * k) (by omega) (by omega) (by omega) fun f => (h.rel.kids k k1 (by omega) f).2.1, key (2 * k + 1) (by omega) (by omega) (by omega) fun f => (h.rel.kids k k1 (by omega) f).2.2⟩

end Go.Proofs.Ytjnmpejcegmkhab

namespace Go.Proofs.Ytjnmpejcegmkhab
open Go.RowKit
variable {Fr : Nat → Prop}

/-- Whether a tree of this kind has this kind of operation (Inc, Put, Get). -/
def okW (ck kd : Int) : Bool := decide ((kd = 0 ∧ ck = 0) ∨ ((kd = 1 ∨ kd = 2) ∧ ck = 1))
/-- What Spawn of an Inc, a Put or a Get must answer. -/
def refusalW (P : PLay) (kd : Int) : Int := if okW P.c.kind kd = false then 2 else if 256 ≤ P.procs.length then 3 else if P.c.procs ≤ (pliveL P.procs : Int) then 4 else 0

theorem KRep.conf {w : World} {B hb : Nat} {P : PLay} {ops : List Op3} {went : List Bool} (h : KRep Fr w B hb P ops went) : w.cell? ⟨hb, 1, none⟩ = some (I P.c.kind) ∧ w.cell? ⟨hb, 2, none⟩ = some (I P.c.depth) ∧ w.cell? ⟨hb, 8, none⟩ = some (I P.c.procs) ∧ ∃ ao cap, w.cell? ⟨hb, 9, none⟩ = some (.slice ao ops.length cap) ∧ ops.length ≤ cap ∧ ops.length ≤ maxLen ∧ cap ≤ maxLen := by
  obtain ⟨ov, wv, a, b, _⟩ := h.blk
  obtain ⟨ao, cap, e1, q1, q2, q3, _⟩ := ownsRow_cells b
  refine ⟨by rw [(nb_facts a).1 1]; rfl, by rw [(nb_facts a).1 2]; rfl, by rw [(nb_facts a).1 8]; rfl, ao, cap, ?_, q1, q2, q3⟩
  rw [(nb_facts a).1 9, ← e1]
  rfl

set_option maxHeartbeats 4000000 in
set_option maxRecDepth 100000 in
theorem krefusal_walk {w : World} {B hb : Nat} {P : PLay} {ops : List Op3} {went : List Bool} (h : KRep Fr w B hb P ops went) (kd vl nd : Int) (hk : kd = 0 ∨ kd = 1 ∨ kd = 2) :
    Calls Try.prog 48 #[.pointer (some ⟨hb, 0, none⟩), .agg #[I kd, I vl, I nd]] w fun e w' => e = .returned (I (refusalW P kd)) ∧ Below w.heap.size w w' := by
  have hlv := fun W (hw : Below w.heap.size w W) => klive_c (h.below hw)
  obtain ⟨c1, c2, c8, ao, cap, c9, q1, q2, q3⟩ := h.conf
  have hlen := h.len
  rw [hlen] at c9 q1 q2
  have HF : Hid (∀ W, Below w.heap.size w W → W.cell? ⟨hb, 8, none⟩ = some (I P.c.procs) ∧ W.cell? ⟨hb, 9, none⟩ = some (.slice ao P.procs.length cap)) := fun W hw => ⟨(hw.cell (p := ⟨hb, 8, none⟩) (cell_lt c8)).trans c8, (hw.cell (p := ⟨hb, 9, none⟩) (cell_lt c9)).trans c9⟩
  have l0 := cell_lt c1
  unfold maxLen at q2 q3
  have HRF : Hid (∀ kd, refusalW P kd = if okW P.c.kind kd = false then 2 else if 256 ≤ P.procs.length then 3 else if P.c.procs ≤ (pliveL P.procs : Int) then 4 else 0) := fun _ => rfl
  generalize pliveL P.procs = lv at *
  generalize P.procs.length = np at *
  generalize P.c.kind = ck at *
  generalize P.c.procs = cp at *
  replace hlv : Hid _ := hlv
  clear h hlen
  rcases hk with rfl | rfl | rfl
  · by_cases hc : ck = 0
    · have bc : (ck == 0) = true := by simp [hc]
      have HR : Hid (refusalW P 0 = if 256 ≤ np then 3 else if cp ≤ (lv : Int) then 4 else 0) := by show _ = _; rw [HRF.out 0]; simp [okW, hc]
      rw [HR.out]
      clear HRF hc
      by_cases h3 : 256 ≤ np
      · rw [if_pos h3]
        have hi3 : decide ((256 : Int) ≤ (np : Int)) = true := by simp; omega
        clear h3
        go_enter Try.func48, Try.ntmps48
        go_wp2_with fail
        refine Calls.mono (hlv.out _ ((Below.refl _ _).alloc (Nat.le_refl _) _)) ?_
        rintro e w1 ⟨rfl, hb1⟩
        have hb2 : Below w.heap.size w w1 := ((Below.refl _ _).alloc (Nat.le_refl _) _).trans (hb1.mono (by simp))
        obtain ⟨g8, g9⟩ := HF.out w1 hb2
        clear hb1 c8 c9 HF
        go_wp2
        go_ret
        exact ⟨rfl, hb2⟩
      · rw [if_neg h3]
        have hd3 : decide ((256 : Int) ≤ (np : Int)) = false := by simp; omega
        clear h3
        by_cases h4 : cp ≤ (lv : Int)
        · rw [if_pos h4]
          go_enter Try.func48, Try.ntmps48
          go_wp2_with fail
          refine Calls.mono (hlv.out _ ((Below.refl _ _).alloc (Nat.le_refl _) _)) ?_
          rintro e w1 ⟨rfl, hb1⟩
          have hb2 : Below w.heap.size w w1 := ((Below.refl _ _).alloc (Nat.le_refl _) _).trans (hb1.mono (by simp))
          obtain ⟨g8, g9⟩ := HF.out w1 hb2
          clear hb1 c8 c9 HF
          go_wp2
          go_ret
          exact ⟨rfl, hb2⟩
        · rw [if_neg h4]
          have hd4 : decide (cp ≤ (lv : Int)) = false := by simp; omega
          go_enter Try.func48, Try.ntmps48
          go_wp2_with fail
          refine Calls.mono (hlv.out _ ((Below.refl _ _).alloc (Nat.le_refl _) _)) ?_
          rintro e w1 ⟨rfl, hb1⟩
          have hb2 : Below w.heap.size w w1 := ((Below.refl _ _).alloc (Nat.le_refl _) _).trans (hb1.mono (by simp))
          obtain ⟨g8, g9⟩ := HF.out w1 hb2
          clear hb1 c8 c9 HF
          go_wp2
          go_ret
          exact ⟨rfl, hb2⟩
    · have bc : (ck == 0) = false := by simp [hc]
      have HR : Hid (refusalW P 0 = 2) := by show _ = _; rw [HRF.out 0]; simp [okW, hc]
      rw [HR.out]
      clear HRF hc
      go_enter Try.func48, Try.ntmps48
      go_wp2_with fail
      refine Calls.mono (hlv.out _ ((Below.refl _ _).alloc (Nat.le_refl _) _)) ?_
      rintro e w1 ⟨rfl, hb1⟩
      have hb2 : Below w.heap.size w w1 := ((Below.refl _ _).alloc (Nat.le_refl _) _).trans (hb1.mono (by simp))
      obtain ⟨g8, g9⟩ := HF.out w1 hb2
      clear hb1 c8 c9 HF
      go_wp2
      go_ret
      exact ⟨rfl, hb2⟩
  · by_cases hc : ck = 1
    · have bc : (ck == 1) = true := by simp [hc]
      have HR : Hid (refusalW P 1 = if 256 ≤ np then 3 else if cp ≤ (lv : Int) then 4 else 0) := by show _ = _; rw [HRF.out 1]; simp [okW, hc]
      rw [HR.out]
      clear HRF hc
      by_cases h3 : 256 ≤ np
      · rw [if_pos h3]
        have hi3 : decide ((256 : Int) ≤ (np : Int)) = true := by simp; omega
        clear h3
        go_enter Try.func48, Try.ntmps48
        go_wp2_with fail
        refine Calls.mono (hlv.out _ ((Below.refl _ _).alloc (Nat.le_refl _) _)) ?_
        rintro e w1 ⟨rfl, hb1⟩
        have hb2 : Below w.heap.size w w1 := ((Below.refl _ _).alloc (Nat.le_refl _) _).trans (hb1.mono (by simp))
        obtain ⟨g8, g9⟩ := HF.out w1 hb2
        clear hb1 c8 c9 HF
        go_wp2
        go_ret
        exact ⟨rfl, hb2⟩
      · rw [if_neg h3]
        have hd3 : decide ((256 : Int) ≤ (np : Int)) = false := by simp; omega
        clear h3
        by_cases h4 : cp ≤ (lv : Int)
        · rw [if_pos h4]
          go_enter Try.func48, Try.ntmps48
          go_wp2_with fail
          refine Calls.mono (hlv.out _ ((Below.refl _ _).alloc (Nat.le_refl _) _)) ?_
          rintro e w1 ⟨rfl, hb1⟩
          have hb2 : Below w.heap.size w w1 := ((Below.refl _ _).alloc (Nat.le_refl _) _).trans (hb1.mono (by simp))
          obtain ⟨g8, g9⟩ := HF.out w1 hb2
          clear hb1 c8 c9 HF
          go_wp2
          go_ret
          exact ⟨rfl, hb2⟩
        · rw [if_neg h4]
          have hd4 : decide (cp ≤ (lv : Int)) = false := by simp; omega
          go_enter Try.func48, Try.ntmps48
          go_wp2_with fail
          refine Calls.mono (hlv.out _ ((Below.refl _ _).alloc (Nat.le_refl _) _)) ?_
          rintro e w1 ⟨rfl, hb1⟩
          have hb2 : Below w.heap.size w w1 := ((Below.refl _ _).alloc (Nat.le_refl _) _).trans (hb1.mono (by simp))
          obtain ⟨g8, g9⟩ := HF.out w1 hb2
          clear hb1 c8 c9 HF
          go_wp2
          go_ret
          exact ⟨rfl, hb2⟩
    · have bc : (ck == 1) = false := by simp [hc]
      have HR : Hid (refusalW P 1 = 2) := by show _ = _; rw [HRF.out 1]; simp [okW, hc]
      rw [HR.out]
      clear HRF hc
      go_enter Try.func48, Try.ntmps48
      go_wp2_with fail
      refine Calls.mono (hlv.out _ ((Below.refl _ _).alloc (Nat.le_refl _) _)) ?_
      rintro e w1 ⟨rfl, hb1⟩
      have hb2 : Below w.heap.size w w1 := ((Below.refl _ _).alloc (Nat.le_refl _) _).trans (hb1.mono (by simp))
      obtain ⟨g8, g9⟩ := HF.out w1 hb2
      clear hb1 c8 c9 HF
      go_wp2
      go_ret
      exact ⟨rfl, hb2⟩
  · by_cases hc : ck = 1
    · have bc : (ck == 1) = true := by simp [hc]
      have HR : Hid (refusalW P 2 = if 256 ≤ np then 3 else if cp ≤ (lv : Int) then 4 else 0) := by show _ = _; rw [HRF.out 2]; simp [okW, hc]
      rw [HR.out]
      clear HRF hc
      by_cases h3 : 256 ≤ np
      · rw [if_pos h3]
        have hi3 : decide ((256 : Int) ≤ (np : Int)) = true := by simp; omega
        clear h3
        go_enter Try.func48, Try.ntmps48
        go_wp2_with fail
        refine Calls.mono (hlv.out _ ((Below.refl _ _).alloc (Nat.le_refl _) _)) ?_
        rintro e w1 ⟨rfl, hb1⟩
        have hb2 : Below w.heap.size w w1 := ((Below.refl _ _).alloc (Nat.le_refl _) _).trans (hb1.mono (by simp))
        obtain ⟨g8, g9⟩ := HF.out w1 hb2
        clear hb1 c8 c9 HF
        go_wp2
        go_ret
        exact ⟨rfl, hb2⟩
      · rw [if_neg h3]
        have hd3 : decide ((256 : Int) ≤ (np : Int)) = false := by simp; omega
        clear h3
        by_cases h4 : cp ≤ (lv : Int)
        · rw [if_pos h4]
          go_enter Try.func48, Try.ntmps48
          go_wp2_with fail
          refine Calls.mono (hlv.out _ ((Below.refl _ _).alloc (Nat.le_refl _) _)) ?_
          rintro e w1 ⟨rfl, hb1⟩
          have hb2 : Below w.heap.size w w1 := ((Below.refl _ _).alloc (Nat.le_refl _) _).trans (hb1.mono (by simp))
          obtain ⟨g8, g9⟩ := HF.out w1 hb2
          clear hb1 c8 c9 HF
          go_wp2
          go_ret
          exact ⟨rfl, hb2⟩
        · rw [if_neg h4]
          have hd4 : decide (cp ≤ (lv : Int)) = false := by simp; omega
          go_enter Try.func48, Try.ntmps48
          go_wp2_with fail
          refine Calls.mono (hlv.out _ ((Below.refl _ _).alloc (Nat.le_refl _) _)) ?_
          rintro e w1 ⟨rfl, hb1⟩
          have hb2 : Below w.heap.size w w1 := ((Below.refl _ _).alloc (Nat.le_refl _) _).trans (hb1.mono (by simp))
          obtain ⟨g8, g9⟩ := HF.out w1 hb2
          clear hb1 c8 c9 HF
          go_wp2
          go_ret
          exact ⟨rfl, hb2⟩
    · have bc : (ck == 1) = false := by simp [hc]
      have HR : Hid (refusalW P 2 = 2) := by show _ = _; rw [HRF.out 2]; simp [okW, hc]
      rw [HR.out]
      clear HRF hc
      go_enter Try.func48, Try.ntmps48
      go_wp2_with fail
      refine Calls.mono (hlv.out _ ((Below.refl _ _).alloc (Nat.le_refl _) _)) ?_
      rintro e w1 ⟨rfl, hb1⟩
      have hb2 : Below w.heap.size w w1 := ((Below.refl _ _).alloc (Nat.le_refl _) _).trans (hb1.mono (by simp))
      obtain ⟨g8, g9⟩ := HF.out w1 hb2
      clear hb1 c8 c9 HF
      go_wp2
      go_ret
      exact ⟨rfl, hb2⟩

end Go.Proofs.Ytjnmpejcegmkhab

namespace Go.Proofs.Ytjnmpejcegmkhab
open Go.RowKit
variable {Fr : Nat → Prop}

def okOpDec (c : Conf) (o : Op3) : Decidable (okOp c o) := by unfold okOp; exact inferInstance
/-- What Spawn must answer. -/
def refusalK (P : PLay) (o : Op3) : Int := letI := okOpDec P.c o; if ¬ okOp P.c o then 2 else if 256 ≤ P.procs.length then 3 else if P.c.procs ≤ (pliveL P.procs : Int) then 4 else 0

set_option maxHeartbeats 4000000 in
set_option maxRecDepth 100000 in
theorem krefusal_chg {w : World} {B hb : Nat} {P : PLay} {ops : List Op3} {went : List Bool} (h : KRep Fr w B hb P ops went) (kd vl nd : Int) (hk : kd = 3 ∨ kd = 4) (hd0 : 0 ≤ P.c.depth) (hd4 : P.c.depth ≤ 4) :
    Calls Try.prog 48 #[.pointer (some ⟨hb, 0, none⟩), .agg #[I kd, I vl, I nd]] w fun e w' => e = .returned (I (refusalK P ⟨kd, vl, nd⟩)) ∧ Below w.heap.size w w' := by
  have hlv := fun W (hw : Below w.heap.size w W) => klive_c (h.below hw)
  obtain ⟨c1, c2, c8, ao, cap, c9, q1, q2, q3⟩ := h.conf
  have hlen := h.len
  rw [hlen] at c9 q1 q2
  have HF : Hid (∀ W, Below w.heap.size w W → W.cell? ⟨hb, 8, none⟩ = some (I P.c.procs) ∧ W.cell? ⟨hb, 9, none⟩ = some (.slice ao P.procs.length cap)) := fun W hw => ⟨(hw.cell (p := ⟨hb, 8, none⟩) (cell_lt c8)).trans c8, (hw.cell (p := ⟨hb, 9, none⟩) (cell_lt c9)).trans c9⟩
  have l0 := cell_lt c1
  unfold maxLen at q2 q3
  have HRF0 : refusalK P ⟨kd, vl, nd⟩ = (letI := okOpDec P.c ⟨kd, vl, nd⟩; if ¬ okOp P.c ⟨kd, vl, nd⟩ then 2 else if 256 ≤ P.procs.length then 3 else if P.c.procs ≤ (pliveL P.procs : Int) then 4 else 0) := rfl
  generalize refusalK P ⟨kd, vl, nd⟩ = rk at *
  have HOK : Hid (decide (1 ≤ nd ∧ nd ≤ ((2 ^ P.c.depth.toNat : Nat) : Int) - 1) = (letI := okOpDec P.c ⟨kd, vl, nd⟩; decide (okOp P.c ⟨kd, vl, nd⟩))) := by
    show _ = _
    refine decide_eq_decide.2 ?_
    unfold okOp
    simp only
    omega
  generalize hokb : (letI := okOpDec P.c ⟨kd, vl, nd⟩; decide (okOp P.c ⟨kd, vl, nd⟩)) = okb at *
  obtain ⟨d, hd⟩ := Int.eq_ofNat_of_zero_le hd0
  generalize pliveL P.procs = lv at *
  generalize P.procs.length = np at *
  generalize P.c.procs = cp at *
  have HRF : Hid ((okb = false → rk = 2) ∧ (okb = true → 256 ≤ np → rk = 3) ∧ (okb = true → ¬ 256 ≤ np → cp ≤ (lv : Int) → rk = 4) ∧ (okb = true → ¬ 256 ≤ np → ¬ cp ≤ (lv : Int) → rk = 0)) := by
    refine ⟨fun a => ?_, fun a b => ?_, fun a b d => ?_, fun a b d => ?_⟩
    · rw [HRF0, if_pos (@of_decide_eq_false _ (okOpDec _ _) (hokb.trans a))]
    · rw [HRF0, if_neg (fun k => k (@of_decide_eq_true _ (okOpDec _ _) (hokb.trans a))), if_pos b]
    · rw [HRF0, if_neg (fun k => k (@of_decide_eq_true _ (okOpDec _ _) (hokb.trans a))), if_neg b, if_pos d]
    · rw [HRF0, if_neg (fun k => k (@of_decide_eq_true _ (okOpDec _ _) (hokb.trans a))), if_neg b, if_neg d]
  clear HRF0
  clear hokb
  have HX : Hid (decide (1 ≤ nd ∧ nd ≤ wrap64 (wrap64 (2 ^ d) - 1)) = okb) := by
    show _ = _
    have h1 := sh_one d (by omega)
    have h2 : (2 : Nat) ^ d ≤ 2 ^ 4 := Nat.pow_le_pow_right (by omega) (by omega)
    have h3 := HOK.out
    rw [hd, Int.toNat_natCast] at h3
    rw [h1]
    generalize (2 : Nat) ^ d = z at *
    rw [IntWalk.wrap64_in _ ⟨by omega, by omega⟩, ← h3]
  clear HOK
  generalize P.c.kind = ck at *
  generalize P.c.depth = cd at *
  replace hlv : Hid _ := hlv
  clear h hlen
  subst hd
  have hw := fun (x : Int) W => within_c nd 1 x W
  replace hw : Hid _ := hw
  rcases hk with rfl | rfl
  · go_enter Try.func48, Try.ntmps48
    go_wp2_with fail
    go_quiet ((go_at_call 32; exact Calls.quiet_of_same (hw.out _ _)))
    go_wp2_with fail
    rw [HX.out]
    have hb0 := fun nq => Below.drewN' ((Below.refl w.heap.size w).alloc (Nat.le_refl _) (.cells #[I 3, I vl, I nd] 51)) nq
    replace hb0 := hb0 nq
    refine Calls.mono (hlv.out _ hb0) ?_
    rintro e w1 ⟨rfl, hb1⟩
    have hb2 : Below w.heap.size w w1 := hb0.trans (hb1.mono hb0.size)
    obtain ⟨g8, g9⟩ := HF.out w1 hb2
    clear hb1 c8 c9 HF hlv
    cases okb
    · have e1 : rk = 2 := HRF.out.1 rfl
      subst e1
      clear HRF
      go_wp2
      go_ret
      exact ⟨rfl, hb2⟩
    · by_cases h3 : 256 ≤ np
      · have e1 : rk = 3 := HRF.out.2.1 rfl (by omega)
        subst e1
        have hi3 : decide ((256 : Int) ≤ (np : Int)) = true := by simp; omega
        clear HRF
        go_wp2
        go_ret
        exact ⟨rfl, hb2⟩
      · have hd3 : decide ((256 : Int) ≤ (np : Int)) = false := by simp; omega
        by_cases h4 : cp ≤ (lv : Int)
        · have e1 : rk = 4 := HRF.out.2.2.1 rfl (by omega) (by omega)
          subst e1
          clear HRF h3
          go_wp2
          go_ret
          exact ⟨rfl, hb2⟩
        · have e1 : rk = 0 := HRF.out.2.2.2 rfl (by omega) (by omega)
          subst e1
          have hd4 : decide (cp ≤ (lv : Int)) = false := by simp; omega
          clear HRF h3
          go_wp2
          go_ret
          exact ⟨rfl, hb2⟩
  · go_enter Try.func48, Try.ntmps48
    go_wp2_with fail
    go_quiet ((go_at_call 32; exact Calls.quiet_of_same (hw.out _ _)))
    go_wp2_with fail
    rw [HX.out]
    have hb0 := fun nq => Below.drewN' ((Below.refl w.heap.size w).alloc (Nat.le_refl _) (.cells #[I 4, I vl, I nd] 51)) nq
    replace hb0 := hb0 nq
    refine Calls.mono (hlv.out _ hb0) ?_
    rintro e w1 ⟨rfl, hb1⟩
    have hb2 : Below w.heap.size w w1 := hb0.trans (hb1.mono hb0.size)
    obtain ⟨g8, g9⟩ := HF.out w1 hb2
    clear hb1 c8 c9 HF hlv
    cases okb
    · have e1 : rk = 2 := HRF.out.1 rfl
      subst e1
      clear HRF
      go_wp2
      go_ret
      exact ⟨rfl, hb2⟩
    · by_cases h3 : 256 ≤ np
      · have e1 : rk = 3 := HRF.out.2.1 rfl (by omega)
        subst e1
        have hi3 : decide ((256 : Int) ≤ (np : Int)) = true := by simp; omega
        clear HRF
        go_wp2
        go_ret
        exact ⟨rfl, hb2⟩
      · have hd3 : decide ((256 : Int) ≤ (np : Int)) = false := by simp; omega
        by_cases h4 : cp ≤ (lv : Int)
        · have e1 : rk = 4 := HRF.out.2.2.1 rfl (by omega) (by omega)
          subst e1
          clear HRF h3
          go_wp2
          go_ret
          exact ⟨rfl, hb2⟩
        · have e1 : rk = 0 := HRF.out.2.2.2 rfl (by omega) (by omega)
          subst e1
          have hd4 : decide (cp ≤ (lv : Int)) = false := by simp; omega
          clear HRF h3
          go_wp2
          go_ret
          exact ⟨rfl, hb2⟩

set_option maxHeartbeats 4000000 in
set_option maxRecDepth 100000 in
theorem krefusal_odd {w : World} {B hb : Nat} {P : PLay} {ops : List Op3} {went : List Bool} (h : KRep Fr w B hb P ops went) (kd vl nd : Int) (hk : kd < 0 ∨ 4 < kd) :
    Calls Try.prog 48 #[.pointer (some ⟨hb, 0, none⟩), .agg #[I kd, I vl, I nd]] w fun e w' => e = .returned (I (refusalK P ⟨kd, vl, nd⟩)) ∧ Below w.heap.size w w' := by
  have hlv := fun W (hw : Below w.heap.size w W) => klive_c (h.below hw)
  obtain ⟨c1, c2, c8, ao, cap, c9, q1, q2, q3⟩ := h.conf
  have hlen := h.len
  rw [hlen] at c9 q1 q2
  have l0 := cell_lt c1
  unfold maxLen at q2 q3
  have HRF : refusalK P ⟨kd, vl, nd⟩ = 2 := by
    unfold refusalK okOp
    rw [if_pos]
    simp only
    omega
  rw [HRF]
  have b0 : (kd == 0) = false := by simp; omega
  have b1 : (kd == 1) = false := by simp; omega
  have b2 : (kd == 2) = false := by simp; omega
  have b3 : (kd == 3) = false := by simp; omega
  have b4 : (kd == 4) = false := by simp; omega
  replace hlv : Hid _ := hlv
  clear h hlen HRF hk
  go_enter Try.func48, Try.ntmps48
  go_wp2_with fail
  refine Calls.mono (hlv.out _ ((Below.refl _ _).alloc (Nat.le_refl _) _)) ?_
  rintro e w1 ⟨rfl, hb1⟩
  have hb2 : Below w.heap.size w w1 := ((Below.refl _ _).alloc (Nat.le_refl _) _).trans (hb1.mono (by simp))
  clear hb1 c8 c9
  go_wp2
  go_ret
  exact ⟨rfl, hb2⟩

theorem krefusal_c {w : World} {B hb : Nat} {P : PLay} {ops : List Op3} {went : List Bool} (h : KRep Fr w B hb P ops went) (kd vl nd : Int) (hd0 : 0 ≤ P.c.depth) (hd4 : P.c.depth ≤ 4) :
    Calls Try.prog 48 #[.pointer (some ⟨hb, 0, none⟩), .agg #[I kd, I vl, I nd]] w fun e w' => e = .returned (I (refusalK P ⟨kd, vl, nd⟩)) ∧ Below w.heap.size w w' := by
  by_cases h3 : kd = 3 ∨ kd = 4
  · exact krefusal_chg h kd vl nd h3 hd0 hd4
  · by_cases h1 : kd = 0 ∨ kd = 1 ∨ kd = 2
    · have e : refusalK P ⟨kd, vl, nd⟩ = refusalW P kd := by
        unfold refusalK refusalW
        have : (¬ okOp P.c ⟨kd, vl, nd⟩) ↔ okW P.c.kind kd = false := by
          unfold okOp okW
          simp only [decide_eq_false_iff_not]
          omega
        by_cases x : okOp P.c ⟨kd, vl, nd⟩
        · rw [if_neg (fun k => k x), if_neg (fun k => this.2 k x)]
        · rw [if_pos x, if_pos (this.1 x)]
      rw [e]
      exact krefusal_walk h kd vl nd h1
    · exact krefusal_odd h kd vl nd (by omega)

end Go.Proofs.Ytjnmpejcegmkhab

namespace Go.Proofs.Ytjnmpejcegmkhab
open Go.RowKit
variable {Fr : Nat → Prop}

theorem grown_chg {w w2 : World} {B : Nat} {e : TypeId} {s : Nat} {v : Value} {n : Nat} {xs : List Value} (h : w.ownsRow B e s v n xs) (hg : w.grownBy w2 v.ownBlock) (hF : ∀ g, v.ownBlock = some g → ¬ Fr g) : ChgT Fr B [e] w w2 := by
  refine ⟨hg.os, hg.tape, hg.output, hg.size, fun k hk hc => hg.block k hk fun he => ?_, fun k hk hf => hg.block k hk fun he => hF k he.symm hf⟩
  rcases hc with hc | hc
  · have := (h.lt k he.symm).1; omega
  · obtain ⟨c', hc'⟩ := ownsRow_block h he.symm
    exact absurd (hc _ _ _ hc') (by simp)

/-- The hand's memory, whatever the lengths. -/
structure KMem (Fr : Nat → Prop) (w : World) (B hb : Nat) (P : PLay) (ov wv : Value) (ops : List Op3) (went : List Bool) : Prop where
  blk : w.heap[hb]? = some (.cells (handCells P ov wv).toArray 41 (0, 0))
  rop : w.ownsRow B 51 3 ov ops.length (ops.flatMap opCells)
  rwe : w.ownsRow B 4 1 wv went.length (went.map Value.bool)
  hB : B ≤ hb
  prog : PRep Fr w B P
  far : HFar Fr hb ov wv

theorem KRep.mem {w : World} {B hb : Nat} {P : PLay} {ops : List Op3} {went : List Bool} (h : KRep Fr w B hb P ops went) : ∃ ov wv, KMem Fr w B hb P ov wv ops went := by
  obtain ⟨ov, wv, a, b, d, f⟩ := h.blk
  exact ⟨ov, wv, a, b, d, h.hB, h.prog, f⟩
theorem KMem.below {w w' : World} {B hb : Nat} {P : PLay} {ov wv : Value} {ops : List Op3} {went : List Bool} (h : KMem Fr w B hb P ov wv ops went) (hw : Below w.heap.size w w') : KMem Fr w' B hb P ov wv ops went :=
  ⟨by rw [hw.block _ (Array.getElem?_eq_some_iff.1 h.blk).1]; exact h.blk, ownsRow_below h.rop hw (Nat.le_refl _), ownsRow_below h.rwe hw (Nat.le_refl _), h.hB, h.prog.below hw, h.far⟩

/-- The tree has one process more. -/
theorem KMem.spawned {w w' : World} {B hb : Nat} {P : PLay} {ov wv : Value} {ops : List Op3} {went : List Bool} (h : KMem Fr w B hb P ov wv ops went) (hc : ChgT Fr B [81, 101] w w') {y : Value} {ps : List PP} (hp : PRep Fr w' B { P with pv := y, procs := ps }) : KMem Fr w' B hb { P with pv := y, procs := ps } ov wv ops went :=
  ⟨hc.at h.blk (by decide), hc.row h.rop (by decide), hc.row h.rwe (by decide), h.hB, hp, h.far⟩

/-- An operation is appended to the hand's. -/
theorem KMem.pushOp {w w1 w2 : World} {B hb : Nat} {P : PLay} {ov wv x : Value} {ops : List Op3} {went : List Bool} (h : KMem Fr w B hb P ov wv ops went) (hw : Below w.heap.size w w1) (o : Op3) (ho : w2.ownsRow B 51 3 x (ops.length + 1) (ops.flatMap opCells ++ opCells o)) (hg : w1.grownBy w2 ov.ownBlock) (hx : ∀ g, x.ownBlock = some g → ov.ownBlock = some g ∨ w.heap.size ≤ g) :
    KMem Fr (w2.setCell ⟨hb, 9, none⟩ x) B hb P x wv (ops ++ [o]) went ∧ ChgT Fr B [51, 41] w (w2.setCell ⟨hb, 9, none⟩ x) := by
  have h1 := h.below hw
  have hc := grown_chg h1.rop hg h.far.2.1
  have hb2 := hc.at h1.blk (by decide)
  have hcc : ChgT Fr B [51, 41] w1 (w2.setCell ⟨hb, 9, none⟩ x) := (hc.mono (Nat.le_refl _) (by simp)).trans (by
    refine ⟨rfl, rfl, rfl, by simp [World.setCell], fun k _ hk => Below.heap_setCell _ _ _ _ ?_, fun k _ hf => Below.heap_setCell _ _ _ _ (fun e => h.far.1 (by rw [← show k = hb from e]; exact hf))⟩
    intro e
    have e' : k = hb := e
    rcases hk with hk | hk
    · have := h.hB
      omega
    · exact absurd (hk _ _ _ (by rw [e']; exact hb2)) (by simp))
  refine ⟨⟨?_, ?_, hcc.row h1.rwe (by decide), h.hB, h1.prog.chg hcc (by decide) (by decide) (by decide), ⟨h.far.1, fun g hg' hf => (hx g hg').elim (fun e => h.far.2.1 g e hf) fun e => by have := h.prog.far.1 g hf; omega, h.far.2.2⟩⟩, (ChgT.of_below hw).trans hcc⟩
  · rw [nb_set hb2]
    rfl
  · have := ownsRow_setCell_type ho hb2 (by decide) 9 x
    have e : (ops ++ [o]).flatMap opCells = ops.flatMap opCells ++ opCells o := by rw [List.flatMap_append]; simp
    rw [e, List.length_append]
    exact this

theorem KMem.pushWent {w w1 w2 : World} {B hb : Nat} {P : PLay} {ov wv x : Value} {ops : List Op3} {went : List Bool} (h : KMem Fr w B hb P ov wv ops went) (hw : Below w.heap.size w w1) (b : Bool) (ho : w2.ownsRow B 4 1 x (went.length + 1) (went.map Value.bool ++ [.bool b])) (hg : w1.grownBy w2 wv.ownBlock) (hx : ∀ g, x.ownBlock = some g → wv.ownBlock = some g ∨ w.heap.size ≤ g) :
    KMem Fr (w2.setCell ⟨hb, 10, none⟩ x) B hb P ov x ops (went ++ [b]) ∧ ChgT Fr B [4, 41] w (w2.setCell ⟨hb, 10, none⟩ x) := by
  have h1 := h.below hw
  have hc := grown_chg h1.rwe hg h.far.2.2
  have hb2 := hc.at h1.blk (by decide)
  have hcc : ChgT Fr B [4, 41] w1 (w2.setCell ⟨hb, 10, none⟩ x) := (hc.mono (Nat.le_refl _) (by simp)).trans (by
    refine ⟨rfl, rfl, rfl, by simp [World.setCell], fun k _ hk => Below.heap_setCell _ _ _ _ ?_, fun k _ hf => Below.heap_setCell _ _ _ _ (fun e => h.far.1 (by rw [← show k = hb from e]; exact hf))⟩
    intro e
    have e' : k = hb := e
    rcases hk with hk | hk
    · have := h.hB
      omega
    · exact absurd (hk _ _ _ (by rw [e']; exact hb2)) (by simp))
  refine ⟨⟨?_, hcc.row h1.rop (by decide), ?_, h.hB, h1.prog.chg hcc (by decide) (by decide) (by decide), ⟨h.far.1, h.far.2.1, fun g hg' hf => (hx g hg').elim (fun e => h.far.2.2 g e hf) fun e => by have := h.prog.far.1 g hf; omega⟩⟩, (ChgT.of_below hw).trans hcc⟩
  · rw [nb_set hb2]
    rfl
  · have := ownsRow_setCell_type ho hb2 (by decide) 10 x
    rw [List.map_append, List.length_append]
    exact this

end Go.Proofs.Ytjnmpejcegmkhab

namespace Go.Proofs.Ytjnmpejcegmkhab
open Go.RowKit
variable {Fr : Nat → Prop}

end Go.Proofs.Ytjnmpejcegmkhab

namespace Go.Proofs.Ytjnmpejcegmkhab
open Go.RowKit
variable {Fr : Nat → Prop}

theorem Try.info51 : (Try.prog.info? 51).map (fun i => (i.zero, i.size, i.bytes)) = some (some (.agg #[.int .i64 0, .int .i64 0, .int .i64 0]), 3, 24) := by kernel_rfl

theorem Try.info4 : (Try.prog.info? 4).map (fun i => (i.zero, i.size, i.bytes)) = some (some (.bool false), 1, 1) := by kernel_rfl

end Go.Proofs.Ytjnmpejcegmkhab

namespace Go.Proofs.Ytjnmpejcegmkhab
open Go.RowKit
variable {Fr : Nat → Prop}

set_option maxHeartbeats 8000000 in
set_option maxRecDepth 100000 in
theorem kspawn_err {w : World} {B hb : Nat} {P : PLay} {ops : List Op3} {went : List Bool} (h : KRep Fr w B hb P ops went) (kd vl nd : Int) (hd0 : 0 ≤ P.c.depth) (hd4 : P.c.depth ≤ 4) (e0 : Int) (he : refusalK P ⟨kd, vl, nd⟩ = e0) (he0 : e0 ≠ 0)
    (hs : ∀ W, PRep Fr W B P → Calls Try.prog 49 #[.pointer (some ⟨P.tb, 0, none⟩), .agg #[I kd, I vl, I nd]] W fun x w' => x = .returned (.tuple #[I 0, I e0]) ∧ Below W.heap.size W w') :
    Calls Try.prog 28 #[.pointer (some ⟨hb, 0, none⟩), .agg #[I kd, I vl, I nd]] w fun e w' => e = .returned (.bool true) ∧ Below w.heap.size w w' := by
  have hr := fun W (hw : Below w.heap.size w W) => krefusal_c (h.below hw) kd vl nd hd0 hd4
  rw [he] at hr
  have hsp := fun W (hw : Below w.heap.size w W) => hs W (h.prog.below hw)
  have HT : Hid (∀ W, Below w.heap.size w W → W.cell? ⟨hb, 0, none⟩ = some (.pointer (some ⟨P.tb, 0, none⟩))) := fun W hw => (h.below hw).t
  have l0 := cell_lt h.t
  have b0 : (e0 != 0) = true := by simp [he0]
  have hba : Below w.heap.size w (w.alloc (.cells #[I kd, I vl, I nd] 51)) := (Below.refl _ _).alloc (Nat.le_refl _) _
  have noa : (w.alloc (.cells #[I kd, I vl, I nd] 51)).heap[w.heap.size]? = some (.cells #[I kd, I vl, I nd] 51 (0, 0)) := nb_alloc _ _ _
  replace hr : Hid _ := hr
  replace hsp : Hid _ := hsp
  clear h hs he he0
  go_enter Try.func28, Try.ntmps28
  go_wp2_with fail
  refine Calls.mono (hr.out _ hba) ?_
  rintro e w1 ⟨rfl, hb1⟩
  have hb2 : Below w.heap.size w w1 := hba.trans (hb1.mono (by simp))
  have nx : w1.heap[w.heap.size]? = some (.cells #[I kd, I vl, I nd] 51 (0, 0)) := (hb1.block _ (by simp)).trans noa
  obtain ⟨x1, _⟩ := nb_facts nx
  have l1 := (Array.getElem?_eq_some_iff.1 nx).1
  have c0 := HT.out w1 hb2
  clear hb1 hr hba noa nx
  go_wp2_with fail
  go_region_with (go_at_call 49; refine (hsp.out _ (by first | exact hb2.drew | exact (hb2.alloc hb2.size _).drew)).mono ?_; rintro e w2 ⟨rfl, hb3⟩)
  all_goals
    go_wp2
    go_ret
    exact ⟨rfl, hb2.drew.trans (hb3.mono hb2.size)⟩

set_option maxHeartbeats 8000000 in
set_option maxRecDepth 100000 in
theorem kspawn_ok {w : World} {B hb : Nat} {P : PLay} {ops : List Op3} {went : List Bool} (h : KRep Fr w B hb P ops went) (hB : B ≤ w.heap.size) (kd vl nd : Int) (hd0 : 0 ≤ P.c.depth) (hd4 : P.c.depth ≤ 4) (he : refusalK P ⟨kd, vl, nd⟩ = 0) (hn : P.procs.length < 256)
    (hs : ∀ W, PRep Fr W B P → B ≤ W.heap.size → Calls Try.prog 49 #[.pointer (some ⟨P.tb, 0, none⟩), .agg #[I kd, I vl, I nd]] W fun x w' => x = .returned (.tuple #[I P.procs.length, I 0]) ∧ (∃ y, PRep Fr w' B { P with pv := y, procs := P.procs ++ [newPP ⟨kd, vl, nd⟩] }) ∧ ChgT Fr B [81, 101] W w') :
    Calls Try.prog 28 #[.pointer (some ⟨hb, 0, none⟩), .agg #[I kd, I vl, I nd]] w fun e w' => e = .returned (.bool true) ∧ (∃ y, KRep Fr w' B hb { P with pv := y, procs := P.procs ++ [newPP ⟨kd, vl, nd⟩] } (ops ++ [⟨kd, vl, nd⟩]) (went ++ [false])) ∧ ChgT Fr B [81, 101, 51, 4, 41] w w' := by
  have hr := fun W (hw : Below w.heap.size w W) => krefusal_c (h.below hw) kd vl nd hd0 hd4
  rw [he] at hr
  have hsp := fun W (hw : Below w.heap.size w W) => hs W (h.prog.below hw) (Nat.le_trans hB hw.size)
  obtain ⟨ov, wv, hm⟩ := h.mem
  have hlen := h.len
  have hwlen := h.wlen
  have HOV : Hid (∀ k, ov.ownBlock = some k → k < w.heap.size) := fun k hk' => (hm.rop.lt k hk').2
  have HT : Hid (∀ W, Below w.heap.size w W → W.cell? ⟨hb, 0, none⟩ = some (.pointer (some ⟨P.tb, 0, none⟩))) := fun W hw => (h.below hw).t
  have l0 := cell_lt h.t
  have hba : Below w.heap.size w (w.alloc (.cells #[I kd, I vl, I nd] 51)) := (Below.refl _ _).alloc (Nat.le_refl _) _
  have noa : (w.alloc (.cells #[I kd, I vl, I nd] 51)).heap[w.heap.size]? = some (.cells #[I kd, I vl, I nd] 51 (0, 0)) := nb_alloc _ _ _
  replace hr : Hid _ := hr
  replace hsp : Hid _ := hsp
  clear h hs he
  go_enter Try.func28, Try.ntmps28
  go_wp2_with fail
  refine Calls.mono (hr.out _ hba) ?_
  rintro e w1 ⟨rfl, hb1⟩
  have hb2 : Below w.heap.size w w1 := hba.trans (hb1.mono (by simp))
  have nx : w1.heap[w.heap.size]? = some (.cells #[I kd, I vl, I nd] 51 (0, 0)) := (hb1.block _ (by simp)).trans noa
  obtain ⟨x1, _⟩ := nb_facts nx
  have l1 := (Array.getElem?_eq_some_iff.1 nx).1
  have c0 := HT.out w1 hb2
  clear hb1 hr hba noa
  go_wp2_with fail
  go_cut [6, 7] (fun s6 s7 wx => s6 = I P.procs.length ∧ s7 = I 0 ∧ (∃ y, KMem Fr wx B hb { P with pv := y, procs := P.procs ++ [newPP ⟨kd, vl, nd⟩] } ov wv ops went) ∧ wx.heap[w.heap.size]? = some (.cells #[I kd, I vl, I nd] 51 (0, 0)) ∧ ChgT Fr B [81, 101] w wx)
  case first =>
    go_region_with (go_at_call 49; refine (hsp.out _ (by first | exact hb2.drew | exact (hb2.alloc hb2.size _).drew)).mono ?_; rintro e w2 ⟨rfl, ⟨y, hpr⟩, hc2⟩)
    all_goals
      go_wp2_with fail
      go_meet
      exact ⟨rfl, rfl, ⟨y, (hm.below hb2.drew).spawned hc2 hpr⟩, hc2.at nx (by decide), (ChgT.of_below hb2.drew).trans hc2⟩
  case rest =>
    obtain ⟨rfl, rfl, ⟨y, hm2⟩, nx2, hc2⟩ := hcut
    clear hsp HT hm x1 c0 nx hb2 l1
    generalize wc = w2 at *
    obtain ⟨y1, _⟩ := nb_facts nx2
    have l2 := (Array.getElem?_eq_some_iff.1 nx2).1
    obtain ⟨g1, g2⟩ := nb_facts hm2.blk
    have d9 : w2.cell? ⟨hb, 9, none⟩ = some ov := by rw [g1 9]; rfl
    obtain ⟨ao, cap, e1, q1, q2, q3, _⟩ := ownsRow_cells hm2.rop
    rw [e1, hlen] at d9
    have lh := cell_lt d9
    unfold maxLen at q2 q3
    have hne : hb ≠ w.heap.size := by omega
    have hBc : B ≤ w2.heap.size := Nat.le_trans hB hc2.size
    clear g1
    have HB2 : Hid (Below w2.heap.size w2 ((w2.alloc (.cells #[I kd, I vl, I nd] 51)).drew)) := ((Below.refl _ _).alloc (Nat.le_refl _) _).drew
    have HO : Hid (((w2.alloc (.cells #[I kd, I vl, I nd] 51)).drew).ownsRow B 51 3 (.slice ao P.procs.length cap) P.procs.length (ops.flatMap opCells)) := by
      have := ownsRow_below hm2.rop HB2.out (Nat.le_refl _)
      rw [e1, hlen] at this
      exact this
    have HN : Hid (∀ j u, [I kd, I vl, I nd][j]? = some u → ((w2.alloc (.cells #[I kd, I vl, I nd] 51)).drew).cell? ((⟨w2.heap.size, 0, none⟩ : Addr).add j) = some u) := cells_new w2 [I kd, I vl, I nd] 51
    have H1 : Hid (∀ u ∈ [I kd, I vl, I nd], u.oneCell' = true) := by
      intro u hu
      simp only [List.mem_cons, List.not_mem_nil, or_false] at hu
      rcases hu with h | h | h <;> subst h <;> rfl
    have HBB : Hid (B ≤ ((w2.alloc (.cells #[I kd, I vl, I nd] 51)).drew).heap.size) := by
      show B ≤ (w2.alloc _).heap.size
      simp; omega
    have HM : Hid (P.procs.length + 1 ≤ maxLen) := by show _ ≤ _; unfold maxLen; omega
    have HY : Hid ((P.procs.length + 1) * 24 ≤ 140737488355328) := by show _ ≤ _; omega
    have HH : Hid (((w2.alloc (.cells #[I kd, I vl, I nd] 51)).drew).heap.size = w2.heap.size + 1) := by
      show (w2.alloc _).heap.size = _
      simp
    have HC : Hid (∀ w', ((w2.alloc (.cells #[I kd, I vl, I nd] 51)).drew).grownBy w' (Value.slice ao P.procs.length cap).ownBlock → w'.cell? ⟨hb, 9, none⟩ = some (.slice ao P.procs.length cap) ∧ w'.frozen? ⟨hb, 9, none⟩ = false) := by
      intro w' hg
      have hc := grown_chg (Fr := fun _ => False) HO.out hg (fun _ _ hf => hf)
      have hbk := hc.at (hm2.below HB2.out).blk (by decide)
      obtain ⟨k1, k2⟩ := nb_facts hbk
      refine ⟨?_, k2 9⟩
      rw [k1 9, ← hlen, ← e1]
      rfl
    have HP : Hid (∀ w' x, w'.ownsRow B 51 3 x (P.procs.length + 1) (ops.flatMap opCells ++ [I kd, I vl, I nd]) → ((w2.alloc (.cells #[I kd, I vl, I nd] 51)).drew).grownBy w' (Value.slice ao P.procs.length cap).ownBlock → (∀ g, x.ownBlock = some g → (Value.slice ao P.procs.length cap).ownBlock = some g ∨ g = w2.heap.size + 1) →
        KMem Fr (w'.setCell ⟨hb, 9, none⟩ x) B hb { P with pv := y, procs := P.procs ++ [newPP ⟨kd, vl, nd⟩] } x wv (ops ++ [⟨kd, vl, nd⟩]) went ∧ ChgT Fr B [51, 41] w2 (w'.setCell ⟨hb, 9, none⟩ x) ∧ (w'.setCell ⟨hb, 9, none⟩ x).heap[w.heap.size]? = some (.cells #[I kd, I vl, I nd] 51 (0, 0))) := by
      intro w' x a1 a2 a3
      rw [← hlen] at a1 a2 a3
      rw [← e1] at a2 a3
      obtain ⟨b1, b2⟩ := hm2.pushOp HB2.out ⟨kd, vl, nd⟩ a1 a2 (fun g hg => (a3 g hg).imp id fun e => by omega)
      refine ⟨b1, b2, ?_⟩
      rw [Below.heap_setCell _ _ _ _ (by show w.heap.size ≠ hb; omega), a2.block w.heap.size (by show w.heap.size < (w2.alloc _).heap.size; simp; omega) (fun e => by have := HOV.out _ e.symm; omega), HB2.out.block _ l2]
      exact nx2
    clear e1
    obtain ⟨i0, hi, hz0, hz1, hz2⟩ := info_parts Try.info51
    go_wp2_with fail
    go_cut [] (fun wx => ∃ x, KMem Fr wx B hb { P with pv := y, procs := P.procs ++ [newPP ⟨kd, vl, nd⟩] } x wv (ops ++ [⟨kd, vl, nd⟩]) went ∧ ChgT Fr B [51, 41] w2 wx ∧ wx.heap[w.heap.size]? = some (.cells #[I kd, I vl, I nd] 51 (0, 0)))
    case first =>
      go_region_law (refine step_append_lies _ rfl (.tmp 41) (.tmp 43) 38 rfl B 51 i0 _ 3 24 Try.underlying38 hi hz0 hz1 hz2 rfl (by decide) _ _ _ rfl HO.out ⟨w2.heap.size, 0, none⟩ 1 1 [I kd, I vl, I nd] rfl rfl HN.out H1.out (by decide) HM.out HY.out HBB.out (w2.heap.size + 1) HH.out ?_; intro g cp w4 ho4 hg4 hgl4 _; obtain ⟨cc1, cc2⟩ := HC.out _ hg4; have hfin := HP.out _ _ ho4 hg4 (fun g' hg' => by simp only [Value.ownBlock, Option.some.injEq] at hg'; subst hg'; exact hgl4); replace hfin : Hid _ := hfin; clear hg4 ho4)
      all_goals
        go_wp2_with fail
        go_meet
        exact ⟨_, hfin.out⟩
    case rest =>
      obtain ⟨x9, hm3, hc3, nx3⟩ := hcut
      clear HP HC HH HY HM HBB H1 HN HO HB2 hi hz0 hz1 hz2 d9 g2 y1 q1 q2 q3 hm2 nx2
      generalize wc = w3 at *
      have l3 := (Array.getElem?_eq_some_iff.1 nx3).1
      obtain ⟨y1, _⟩ := nb_facts nx3
      obtain ⟨g1, g2⟩ := nb_facts hm3.blk
      have d10 : w3.cell? ⟨hb, 10, none⟩ = some wv := by rw [g1 10]; rfl
      obtain ⟨ao2, cap2, e1, q1, q2, q3, _⟩ := ownsRow_cells hm3.rwe
      rw [e1, hwlen, hlen] at d10
      have lh3 := cell_lt d10
      unfold maxLen at q2 q3
      have hBc3 : B ≤ w3.heap.size := Nat.le_trans hBc hc3.size
      clear g1
      have HB2 : Hid (Below w3.heap.size w3 (w3.alloc (.cells #[.bool false] 4))) := (Below.refl _ _).alloc (Nat.le_refl _) _
      have HO : Hid ((w3.alloc (.cells #[.bool false] 4)).ownsRow B 4 1 (.slice ao2 P.procs.length cap2) P.procs.length (went.map Value.bool)) := by
        have := ownsRow_below hm3.rwe HB2.out (Nat.le_refl _)
        rw [e1, hwlen, hlen] at this
        exact this
      have HN : Hid (∀ j u, [Value.bool false][j]? = some u → (w3.alloc (.cells #[.bool false] 4)).cell? ((⟨w3.heap.size, 0, none⟩ : Addr).add j) = some u) := cells_new w3 [.bool false] 4
      have H1 : Hid (∀ u ∈ [Value.bool false], u.oneCell' = true) := by
        intro u hu
        simp only [List.mem_cons, List.not_mem_nil, or_false] at hu
        subst hu
        rfl
      have HBB : Hid (B ≤ (w3.alloc (.cells #[.bool false] 4)).heap.size) := by
        show B ≤ (w3.alloc _).heap.size
        simp; omega
      have HM : Hid (P.procs.length + 1 ≤ maxLen) := by show _ ≤ _; unfold maxLen; omega
      have HY : Hid ((P.procs.length + 1) * 1 ≤ 140737488355328) := by show _ ≤ _; omega
      have HH : Hid ((w3.alloc (.cells #[.bool false] 4)).heap.size = w3.heap.size + 1) := by
        show (w3.alloc _).heap.size = _
        simp
      have HC : Hid (∀ w', (w3.alloc (.cells #[.bool false] 4)).grownBy w' (Value.slice ao2 P.procs.length cap2).ownBlock → w'.cell? ⟨hb, 10, none⟩ = some (.slice ao2 P.procs.length cap2) ∧ w'.frozen? ⟨hb, 10, none⟩ = false) := by
        intro w' hg
        have hc := grown_chg (Fr := fun _ => False) HO.out hg (fun _ _ hf => hf)
        have hbk := hc.at (hm3.below HB2.out).blk (by decide)
        obtain ⟨k1, k2⟩ := nb_facts hbk
        refine ⟨?_, k2 10⟩
        rw [k1 10, ← hlen, ← hwlen, ← e1]
        rfl
      have HP : Hid (∀ w' x, w'.ownsRow B 4 1 x (P.procs.length + 1) (went.map Value.bool ++ [.bool false]) → (w3.alloc (.cells #[.bool false] 4)).grownBy w' (Value.slice ao2 P.procs.length cap2).ownBlock → (∀ g, x.ownBlock = some g → (Value.slice ao2 P.procs.length cap2).ownBlock = some g ∨ g = w3.heap.size + 1) →
          KMem Fr (w'.setCell ⟨hb, 10, none⟩ x) B hb { P with pv := y, procs := P.procs ++ [newPP ⟨kd, vl, nd⟩] } x9 x (ops ++ [⟨kd, vl, nd⟩]) (went ++ [false]) ∧ ChgT Fr B [4, 41] w3 (w'.setCell ⟨hb, 10, none⟩ x)) := by
        intro w' x a1 a2 a3
        rw [← hlen, ← hwlen] at a1 a2 a3
        rw [← e1] at a2 a3
        exact hm3.pushWent HB2.out false a1 a2 (fun g hg => (a3 g hg).imp id fun e => by omega)
      clear e1
      obtain ⟨i1, hi, hz0, hz1, hz2⟩ := info_parts Try.info4
      go_wp2_with (at_builtin; go_must (refine wpList_append_lies _ rfl (.tmp 51) (.tmp 52) 39 rfl B 4 i1 _ 1 1 Try.underlying39 hi hz0 hz1 hz2 rfl (by decide) _ _ _ rfl HO.out ⟨w3.heap.size, 0, none⟩ 1 1 [.bool false] rfl rfl HN.out H1.out (by decide) HM.out HY.out HBB.out (w3.heap.size + 1) HH.out ?_))
      intro g cp w4 ho4 hg4 hgl4 _
      obtain ⟨cc1, cc2⟩ := HC.out _ hg4
      have hfin := HP.out _ _ ho4 hg4 (fun g' hg' => by simp only [Value.ownBlock, Option.some.injEq] at hg'; subst hg'; exact hgl4)
      obtain ⟨hm4, hc4⟩ := hfin
      have nx4 := hc4.at nx3 (by decide)
      have c04 : (w4.setCell ⟨hb, 10, none⟩ (.slice (some ⟨g, 0, none⟩) (P.procs.length + 1) cp)).cell? ⟨hb, 0, none⟩ = some (.pointer (some ⟨P.tb, 0, none⟩)) := by rw [(nb_facts hm4.blk).1 0]; rfl
      have l4 := cell_lt c04
      have lx4 := (Array.getElem?_eq_some_iff.1 nx4).1
      obtain ⟨z1, _⟩ := nb_facts nx4
      have hpc := fun W (hw : Below _ _ W) => pproc_c (hm4.prog.below (w' := W) hw) P.procs.length
      have hpv : pprocV { P with pv := y, procs := P.procs ++ [newPP ⟨kd, vl, nd⟩] } P.procs.length = .tuple #[.agg #[I (newPP ⟨kd, vl, nd⟩).phase, I 1, I 0], I 0] := by
        unfold pprocV
        rw [if_pos ⟨by omega, by simp; omega⟩]
        simp [newPP]
      rw [hpv] at hpc
      have hways : ((decide (kd = 3) || decide (kd = 4)) = false ∧ (newPP ⟨kd, vl, nd⟩).phase = 0) ∨ ((decide (kd = 3) || decide (kd = 4)) = true ∧ (nd == 1) = true ∧ (newPP ⟨kd, vl, nd⟩).phase = 15) ∨ ((decide (kd = 3) || decide (kd = 4)) = true ∧ (nd == 1) = false ∧ (newPP ⟨kd, vl, nd⟩).phase = 0) := by
        unfold newPP isChange
        by_cases e1 : (decide (kd = 3) || decide (kd = 4)) = true
        · by_cases e2 : nd = 1
          · right; left
            refine ⟨e1, by simp [e2], ?_⟩
            simp only
            rw [if_pos ⟨e1, e2⟩]
          · right; right
            refine ⟨e1, by simp [e2], ?_⟩
            simp only
            rw [if_neg fun h => e2 h.2]
        · left
          refine ⟨by simpa using e1, ?_⟩
          simp only
          rw [if_neg fun h => e1 h.1]
      have hcg := fun W => changer_c kd W
      replace hpc : Hid _ := hpc
      replace hcg : Hid _ := hcg
      have HM4 : Hid _ := hm4
      have HC4 : Hid _ := hc4
      have CC1 : Hid _ := c04
      clear HP HC HH HY HM HBB H1 HN HO HB2 hi hz0 hz1 hz2 d10 y1 q1 q2 q3 hm3 nx3 hg4 ho4 hpv hm4 hc4
      have HFIN : Hid (∀ W, Below (w4.setCell ⟨hb, 10, none⟩ (.slice (some ⟨g, 0, none⟩) (P.procs.length + 1) cp)).heap.size (w4.setCell ⟨hb, 10, none⟩ (.slice (some ⟨g, 0, none⟩) (P.procs.length + 1) cp)) W → (∃ y, KRep Fr W B hb { P with pv := y, procs := P.procs ++ [newPP ⟨kd, vl, nd⟩] } (ops ++ [⟨kd, vl, nd⟩]) (went ++ [false])) ∧ ChgT Fr B [81, 101, 51, 4, 41] w W) := by
        intro W hw
        have hmW := HM4.out.below hw
        refine ⟨⟨y, ⟨_, _, hmW.blk, hmW.rop, hmW.rwe, hmW.far⟩, hmW.hB, hmW.prog, by simp [hlen], by simp [hwlen]⟩, ?_⟩
        exact (((hc2.mono (Nat.le_refl _) (by simp)).trans (hc3.mono (Nat.le_refl _) (by simp))).trans (HC4.out.mono (Nat.le_refl _) (by simp))).trans (ChgT.of_below hw)
      have NX4 : Hid _ := nx4
      clear HM4 HC4 hc2 hc3
      have HWS : Hid _ := hways
      clear hways
      generalize (newPP ⟨kd, vl, nd⟩).phase = f0 at *
      generalize (decide (kd = 3) || decide (kd = 4)) = cb at *
      go_wp2_with fail
      refine Calls.mono (hpc.out _ (Below.refl _ _)) ?_
      rintro e w5 ⟨rfl, hb5⟩
      have nx5 := (hb5.block _ lx4).trans NX4.out
      obtain ⟨z5, _⟩ := nb_facts nx5
      have l5 := (Array.getElem?_eq_some_iff.1 nx5).1
      have HB5 : Hid _ := hb5
      clear hb5 hpc z1 nx4 NX4 cc1 cc2 g2 c04 CC1 l4 lx4
      go_wp2_with fail
      refine Calls.mono (hcg.out _) ?_
      rintro e w6 ⟨rfl, rfl⟩
      clear hcg
      rcases HWS.out with ⟨rfl, rfl⟩ | ⟨rfl, bn, rfl⟩ | ⟨rfl, bn, rfl⟩
      · go_wp2
        go_ret
        exact ⟨rfl, HFIN.out _ (HB5.out.alloc HB5.out.size _)⟩
      · go_wp2
        go_ret
        exact ⟨rfl, HFIN.out _ (HB5.out.alloc HB5.out.size _)⟩
      · go_wp2
        go_ret
        exact ⟨rfl, HFIN.out _ (HB5.out.alloc HB5.out.size _)⟩

end Go.Proofs.Ytjnmpejcegmkhab

namespace Go.Proofs.Ytjnmpejcegmkhab
open Go.RowKit
variable {Fr : Nat → Prop}

def amongTo (v : Int) (xs : List Int) : Bool := xs.any fun x => x == v

set_option maxHeartbeats 2000000 in
theorem among_c (v : Int) (xs : List Int) (b : Nat) (w : World) (hb : w.heap[b]? = some (.cells (xs.map I).toArray 3 (0, 0))) (hl : xs.length ≤ 100) :
    Calls Try.prog 46 #[I v, .slice (some ⟨b, 0, none⟩) xs.length xs.length] w fun e w' => e = .returned (.bool (amongTo v xs)) ∧ w' = w := by
  have hc : ∀ k, (hk : k < xs.length) → w.cell? ⟨b, k, none⟩ = some (I xs[k]) := by
    intro k hk
    rw [(nb_facts hb).1 k]
    simp [hk]
  clear hb
  go_enter Try.func46, Try.ntmps46
  go_wp2_with fail
  go_loop [5] (fun i => ∃ k : Nat, k ≤ xs.length ∧ i = .int .i64 k ∧ amongTo v (xs.take k) = false) (fun i => xs.length - (intOf i).toNat)
  case atStart => exact ⟨0, Nat.zero_le _, rfl, rfl⟩
  case round =>
    obtain ⟨k, hk, rfl, hno⟩ := hrel
    have HNO : Hid _ := hno
    clear hno
    by_cases hlt : k < xs.length
    · have c := hc k hlt
      have hts : Hid (amongTo v (xs.take (k + 1)) = (amongTo v (xs.take k) || (xs[k] == v))) := by
        show _ = _
        unfold amongTo
        rw [take_succ_get xs k hlt, List.any_append]
        simp only [List.any_cons, List.any_nil, Bool.or_false]
      have hin : Hid ((xs[k] == v) = true → amongTo v xs = true) := by
        intro h
        unfold amongTo
        rw [List.any_eq_true]
        exact ⟨xs[k], List.getElem_mem hlt, h⟩
      generalize xs[k] = x at *
      cases hx : (x == v) with
      | true =>
        have HT : Hid (amongTo v xs = true) := hin.out hx
        clear hts hin HNO hc
        go_wp2
        go_ret
        exact ⟨by rw [HT.out]; rfl, rfl⟩
      | false =>
        have HS : Hid (amongTo v (xs.take (k + 1)) = false) := by rw [hts.out, HNO.out, hx]; rfl
        clear hts hin HNO hc
        go_wp2
        go_round
        case rel => exact ⟨k + 1, by omega, by go_num, HS.out⟩
        case measure => simp [intOf]; omega
    · have HE : Hid (amongTo v xs = false) := by
        have := HNO.out
        rw [List.take_of_length_le (by omega)] at this
        exact this
      have hd : decide ((k : Int) < (xs.length : Int)) = false := by simp; omega
      go_wp2
      go_ret
      exact ⟨by rw [HE.out]; rfl, rfl⟩

def behindL (ph : Int) : List Int :=
  if ph = 0 then [1] else if ph = 1 then [2, 3, 12, 19, 15, 0] else if ph = 2 then [0] else if ph = 3 then [4] else if ph = 4 then [5, 8, 11] else if ph = 5 then [6, 9] else if ph = 6 then [7, 6, 10] else if ph = 7 then [0, 19] else if ph = 8 then [0, 19, 9]
  else if ph = 9 then [11] else if ph = 10 then [11] else if ph = 11 then [0] else if ph = 12 then [19, 13, 14] else if ph = 13 then [19, 13] else if ph = 14 then [19, 14] else if ph = 15 then [16, 19, 20] else if ph = 16 then [17, 16, 18] else [19, 20]

set_option maxHeartbeats 4000000 in
set_option maxRecDepth 100000 in
theorem behind_c (ph : Int) (h0 : 0 ≤ ph) (h19 : ph ≤ 19) (w : World) :
    Calls Try.prog 45 #[I ph] w fun e w' => e = .returned (.slice (some ⟨w.heap.size, 0, none⟩) (behindL ph).length (behindL ph).length) ∧ w'.heap[w.heap.size]? = some (.cells ((behindL ph).map I).toArray 3 (0, 0)) ∧ Below w.heap.size w w' := by
  have hp : ph = 0 ∨ ph = 1 ∨ ph = 2 ∨ ph = 3 ∨ ph = 4 ∨ ph = 5 ∨ ph = 6 ∨ ph = 7 ∨ ph = 8 ∨ ph = 9 ∨ ph = 10 ∨ ph = 11 ∨ ph = 12 ∨ ph = 13 ∨ ph = 14 ∨ ph = 15 ∨ ph = 16 ∨ ph = 17 ∨ ph = 18 ∨ ph = 19 := by omega
  clear h0 h19
  rcases hp with rfl | rfl | rfl | rfl | rfl | rfl | rfl | rfl | rfl | rfl | rfl | rfl | rfl | rfl | rfl | rfl | rfl | rfl | rfl | rfl
  all_goals
    go_enter Try.func45, Try.ntmps45
    go_wp2
    go_ret
    exact ⟨rfl, nb_alloc _ _ _, (Below.refl _ _).alloc (Nat.le_refl _) _⟩

end Go.Proofs.Ytjnmpejcegmkhab

namespace Go.Proofs.Ytjnmpejcegmkhab
open Go.RowKit
variable {Fr : Nat → Prop}

/-- The tree has taken a step. -/
theorem KMem.stepped {w w' : World} {B hb : Nat} {P P' : PLay} {ov wv : Value} {ops : List Op3} {went : List Bool} (h : KMem Fr w B hb P ov wv ops went) (hc : ChgT Fr B [81, 101, 108] w w') (hp : PRep Fr w' B P') (htb : P'.tb = P.tb) (hcc : P'.c = P.c) : KMem Fr w' B hb P' ov wv ops went :=
  ⟨by have := hc.at h.blk (by decide); unfold handCells at this ⊢; rw [htb, hcc]; exact this, hc.row h.rop (by decide), hc.row h.rwe (by decide), h.hB, hp, h.far⟩

/-- One of those that went is written. -/
theorem KMem.wentSet {w : World} {B hb : Nat} {P : PLay} {ov : Value} {g cap : Nat} {ops : List Op3} {went : List Bool} (h : KMem Fr w B hb P ov (.slice (some ⟨g, 0, none⟩) went.length cap) ops went) (i : Nat) (b : Bool) :
    KMem Fr (w.setCell ⟨g, i, none⟩ (.bool b)) B hb P ov (.slice (some ⟨g, 0, none⟩) went.length cap) ops (went.set i b) ∧ ChgT Fr B [4] w (w.setCell ⟨g, i, none⟩ (.bool b)) := by
  obtain ⟨cur, hbk⟩ := ownsRow_block h.rwe (g := g) rfl
  have hBg := (h.rwe.lt g rfl).1
  have hc : ChgT Fr B [4] w (w.setCell ⟨g, i, none⟩ (.bool b)) := by
    refine ⟨rfl, rfl, rfl, by simp [World.setCell], fun k _ hk => Below.heap_setCell _ _ _ _ ?_, fun k _ hf => Below.heap_setCell _ _ _ _ (fun e => h.far.2.2 g rfl (by rw [← show k = g from e]; exact hf))⟩
    intro e
    have e' : k = g := e
    rcases hk with hk | hk
    · omega
    · exact absurd (hk _ _ _ (by rw [e']; exact hbk)) (by simp)
  refine ⟨⟨hc.at h.blk (by decide), hc.row h.rop (by decide), ?_, h.hB, h.prog.chg hc (by decide) (by decide) (by decide), h.far⟩, hc⟩
  have := (h.rwe.stored i (.bool b)).1
  rw [← List.map_set] at this
  rw [List.length_set]
  exact this

theorem behindL_len (a : Int) : (behindL a).length ≤ 100 := by
  have key : ∀ (c : Prop) [Decidable c] (x y : List Int), x.length ≤ 100 → y.length ≤ 100 → (if c then x else y).length ≤ 100 := by
    intro c _ x y h1 h2
    split <;> assumption
  unfold behindL
  repeat (refine key _ _ _ (by decide) ?_)
  decide

end Go.Proofs.Ytjnmpejcegmkhab

namespace Go.Proofs.Ytjnmpejcegmkhab
open Go.RowKit
variable {Fr : Nat → Prop}

set_option maxHeartbeats 4000000 in
/-- Step is step, and the phase that comes of it. -/
theorem pStep_ret {B : Nat} {P : PLay} {i : Nat} (hi : i < P.procs.length) (hl : (P.procs[i]).phase ≠ 20) (draw : Int) {F : PLay → Prop} (hF : ∀ P', F P' → P'.tb = P.tb ∧ P'.procs.length = P.procs.length)
    (hs : ∀ W, PRep Fr W B P → B ≤ W.heap.size → Calls Try.prog 56 #[.pointer (some ⟨P.tb, 0, none⟩), I i, I draw] W fun e w' => e = .returned (.tuple #[]) ∧ (∃ P', F P' ∧ PRep Fr w' B P') ∧ ChgT Fr B [81, 101, 108] W w')
    {W : World} (h : PRep Fr W B P) (hB : B ≤ W.heap.size) :
    Calls Try.prog 44 #[.pointer (some ⟨P.tb, 0, none⟩), I i, I draw] W fun e w' => (∃ P', e = .returned (.tuple #[I (P'.procs.getD i zeroPP).phase, I 0]) ∧ F P' ∧ PRep Fr w' B P') ∧ ChgT Fr B [81, 101, 108] W w' := by
  have HF : Hid (∀ w' P', F P' → PRep Fr w' B P' → ∃ g cap, w'.cell? ⟨g, i * 11 + 3, none⟩ = some (I (P'.procs.getD i zeroPP).phase) ∧ w'.cell? ⟨P.tb, 680, none⟩ = some (.slice (some ⟨g, 0, none⟩) P.procs.length cap) ∧ P.procs.length ≤ cap ∧ P.procs.length ≤ 2 ^ 63 - 1 ∧ cap ≤ 2 ^ 63 - 1) := by
    intro w' P' hf hp
    obtain ⟨e1, e2⟩ := hF P' hf
    obtain ⟨ao, cap, k1, k2, k3, k4, k5⟩ := hp.pp_at
    have hi' : i < P'.procs.length := by omega
    obtain ⟨g, rfl, hg⟩ := k5 i hi'
    have hp1 := hp.pcell
    rw [e1, k1, e2] at hp1
    rw [e2] at k2 k3
    have hd : P'.procs.getD i zeroPP = P'.procs[i] := by simp [List.getD_eq_getElem?_getD, List.getElem?_eq_getElem hi']
    refine ⟨g, cap, ?_, hp1, k2, k3, k4⟩
    rw [hg 3 (by omega), hd]
    rfl
  obtain ⟨ao, cap, k1, k2, k3, k4, k5⟩ := h.pp_at
  obtain ⟨g, rfl, hg⟩ := k5 i hi
  have p1 := h.pcell
  rw [k1] at p1
  have c3 : W.cell? ⟨g, i * 11 + 3, none⟩ = some (I (P.procs[i]).phase) := by rw [hg 3 (by omega)]; rfl
  have b1 : ((P.procs[i]).phase == 20) = false := by simp [hl]
  have hi0 : decide ((i : Int) < 0) = false := by simp
  have hil : (i : Int) < (P.procs.length : Int) := by omega
  unfold maxLen at k3 k4
  have hc := hs W h hB
  replace hc : Hid _ := hc
  generalize (P.procs[i]).phase = ph0 at *
  clear h hs hF k5 hg k1 hl
  generalize P.procs.length = np at *
  go_enter Try.func44, Try.ntmps44
  go_wp2_with fail
  refine Calls.mono hc.out ?_
  rintro e w1 ⟨rfl, ⟨P', hf, hp⟩, hch⟩
  obtain ⟨g', cap', e3, e680, e1, e2, e4⟩ := HF.out _ _ hf hp
  clear hc HF c3 p1
  replace hf : Hid _ := hf
  replace hp : Hid _ := hp
  replace hch : Hid _ := hch
  go_wp2
  go_ret2
  exact ⟨⟨P', rfl, hf.out, hp.out⟩, hch.out⟩

set_option maxHeartbeats 8000000 in
set_option maxRecDepth 100000 in
theorem kstep_run {w : World} {B hb : Nat} {P : PLay} {ops : List Op3} {went : List Bool} (h : KRep Fr w B hb P ops went) (hB : B ≤ w.heap.size) (i : Nat) (hi : i < P.procs.length) (draw ph : Int) (a : Int) (ha : (toldP P i).1 = a) (ha0 : 0 ≤ a) (ha9 : a ≤ 19) (hin : amongTo ph (behindL a) = true) (F : PLay → Prop) (hF : ∀ P', F P' → P'.tb = P.tb ∧ P'.c = P.c ∧ P'.procs.length = P.procs.length ∧ (toldP P' i).1 = ph)
    (hs : ∀ W, PRep Fr W B P → B ≤ W.heap.size → Calls Try.prog 44 #[.pointer (some ⟨P.tb, 0, none⟩), I i, I draw] W fun x w' => x = .returned (.tuple #[I ph, I 0]) ∧ (∃ P', F P' ∧ PRep Fr w' B P') ∧ ChgT Fr B [81, 101, 108] W w') :
    Calls Try.prog 25 #[.pointer (some ⟨hb, 0, none⟩), I i, I draw] w fun e w' => e = .returned (.bool true) ∧ (∃ P', F P' ∧ KRep Fr w' B hb P' ops (went.set i true)) ∧ ChgT Fr B [81, 101, 108, 4] w w' := by
  have hat := fun W (hw : Below w.heap.size w W) => kat_c (h.below hw) (i : Int)
  rw [ha] at hat
  have hsp := fun W (hw : Below w.heap.size w W) => hs W (h.prog.below hw) (Nat.le_trans hB hw.size)
  obtain ⟨ov, wv, hm⟩ := h.mem
  obtain ⟨_, _, _, ao, cap, c9, q1, q2, q3⟩ := h.conf
  have hlen := h.len
  have hwlen := h.wlen
  rw [hlen] at c9 q1 q2
  unfold maxLen at q2 q3
  have HT : Hid (∀ W, Below w.heap.size w W → W.cell? ⟨hb, 0, none⟩ = some (.pointer (some ⟨P.tb, 0, none⟩))) := fun W hw => (h.below hw).t
  have l0 := cell_lt c9
  have hi0 : decide ((i : Int) < 0) = false := by simp
  have hil : (i : Int) < (P.procs.length : Int) := by omega
  have b20 : (a == 20) = false := by simp; omega
  generalize (toldP P i).2.1 = a1 at *
  generalize (toldP P i).2.2 = a2 at *
  replace hat : Hid _ := hat
  replace hsp : Hid _ := hsp
  replace hF : Hid _ := hF
  clear h hs ha
  go_enter Try.func25, Try.ntmps25
  go_wp2_with fail
  refine Calls.mono (hat.out _ (Below.refl _ _)) ?_
  rintro e w1 ⟨rfl, hb1⟩
  have c0 := HT.out w1 hb1
  have l1 := cell_lt c0
  clear hat c9
  have hba := hb1.alloc hb1.size (.cells #[I a, I a1, I a2] 48)
  have hna : (w1.alloc (.cells #[I a, I a1, I a2] 48)).heap[w1.heap.size]? = some (.cells #[I a, I a1, I a2] 48 (0, 0)) := nb_alloc _ _ _
  go_wp2_with fail
  refine Calls.mono (hsp.out _ hba) ?_
  rintro e w2 ⟨rfl, ⟨P2, hF2, hpr⟩, hc2⟩
  obtain ⟨hFt, hFc, hFl, hFp⟩ := hF.out P2 hF2
  replace hF2 : Hid _ := hF2
  clear hF
  have hm2 := (hm.below hba).stepped hc2 hpr hFt hFc
  have nx2 := hc2.at hna (by decide)
  have hK2 : KRep Fr w2 B hb P2 ops went := ⟨⟨_, _, hm2.blk, hm2.rop, hm2.rwe, hm2.far⟩, hm2.hB, hm2.prog, by rw [hFl]; exact hlen, hwlen⟩
  have hat2 := fun W (hw : Below w2.heap.size w2 W) => kat_c (hK2.below hw) (i : Int)
  rw [hFp] at hat2
  generalize (toldP P2 i).2.1 = b1 at *
  generalize (toldP P2 i).2.2 = b2 at *
  have hcw : ChgT Fr B [81, 101, 108] w w2 := (ChgT.of_below hba).trans hc2
  obtain ⟨y1, _⟩ := nb_facts nx2
  have l2 := (Array.getElem?_eq_some_iff.1 nx2).1
  have lh2 := (Array.getElem?_eq_some_iff.1 hm2.blk).1
  obtain ⟨ao2, cap2, e1, r1, r2, r3, hrc⟩ := ownsRow_cells hm2.rwe
  obtain ⟨gw, rfl, _, hgc⟩ := hrc i (.bool (went.getD i false)) (by simp [List.getD_eq_getElem?_getD, List.getElem?_eq_getElem (by omega : i < went.length)])
  rw [hwlen, hlen] at e1 r1 r2
  unfold maxLen at r2 r3
  replace hat2 : Hid _ := hat2
  have HM2 : Hid _ := hm2
  have HCW : Hid _ := hcw
  clear hsp hm HT c0 hba hna hc2 hpr hK2 hm2 hcw hrc hb1 q1 q2 q3
  go_wp2_with fail
  refine Calls.mono (hat2.out _ (Below.refl _ _)) ?_
  rintro e w3 ⟨rfl, hb3⟩
  have hm3 := HM2.out.below hb3
  have nx3 := (hb3.block _ l2).trans nx2
  obtain ⟨z1, _⟩ := nb_facts nx3
  have l3 := (Array.getElem?_eq_some_iff.1 nx3).1
  have d10 : w3.cell? ⟨hb, 10, none⟩ = some (.slice (some ⟨gw, 0, none⟩) P.procs.length cap2) := by rw [(nb_facts hm3.blk).1 10, ← e1]; rfl
  have lh3 := cell_lt d10
  have hm3' := hm3
  rw [e1] at hm3'
  have dgw : w3.cell? ⟨gw, i, none⟩ = some (.bool (went.getD i false)) := by
    have := (hb3.cell (p := ⟨gw, i, none⟩) (cell_lt hgc)).trans hgc
    exact this
  have lgw := cell_lt dgw
  have hfz : w3.frozen? ⟨gw, i, none⟩ = false := by
    obtain ⟨cur, hbk⟩ := ownsRow_block hm3'.rwe (g := gw) rfl
    exact (nb_facts hbk).2 i
  have hgx : gw ≠ w1.heap.size := by
    intro e
    obtain ⟨cur, hbk⟩ := ownsRow_block hm3'.rwe (g := gw) rfl
    rw [e, nx3] at hbk
    simp at hbk
  have hmw := fun W (hw : Below w3.heap.size w3 W) => (show KMem Fr W B hb P2 ov (.slice (some ⟨gw, 0, none⟩) went.length cap2) ops went from by rw [hwlen, hlen]; exact hm3'.below hw).wentSet i true
  replace hmw : Hid _ := hmw
  have HB3 : Hid _ := hb3
  have hbe := fun W => behind_c a ha0 ha9 W
  replace hbe : Hid _ := hbe
  have HAM : Hid (∀ W b, W.heap[b]? = some (.cells ((behindL a).map I).toArray 3 (0, 0)) → Calls Try.prog 46 #[I ph, .slice (some ⟨b, 0, none⟩) (behindL a).length (behindL a).length] W fun e w' => e = .returned (.bool true) ∧ w' = W) := by
    intro W b hb'
    have := among_c ph (behindL a) b W hb' (behindL_len a)
    rw [hin] at this
    exact this
  clear HM2 hm3 hm3' e1 y1 nx2 hat2 hb3 hgc hin
  have nb0 : ((w3.setCell ⟨gw, i, none⟩ (.bool true)).alloc (.cells #[I ph, I b1, I b2] 48)).heap[w3.heap.size]? = some (.cells #[I ph, I b1, I b2] 48 (0, 0)) := by
    have := nb_alloc (w3.setCell ⟨gw, i, none⟩ (.bool true)) #[I ph, I b1, I b2] 48
    have es : (w3.setCell ⟨gw, i, none⟩ (.bool true)).heap.size = w3.heap.size := by simp [World.setCell]
    rw [es] at this
    exact this
  have esz : ((w3.setCell ⟨gw, i, none⟩ (.bool true)).alloc (.cells #[I ph, I b1, I b2] 48)).heap.size = w3.heap.size + 1 := by simp [World.setCell]
  have HFIN : Hid (∀ W, Below ((w3.setCell ⟨gw, i, none⟩ (.bool true)).alloc (.cells #[I ph, I b1, I b2] 48)).heap.size ((w3.setCell ⟨gw, i, none⟩ (.bool true)).alloc (.cells #[I ph, I b1, I b2] 48)) W → (∃ P', F P' ∧ KRep Fr W B hb P' ops (went.set i true)) ∧ ChgT Fr B [81, 101, 108, 4] w W) := by
    intro W hw
    obtain ⟨m1, m2⟩ := hmw.out w3 (Below.refl _ _)
    have hbl : Below (w3.setCell ⟨gw, i, none⟩ (.bool true)).heap.size (w3.setCell ⟨gw, i, none⟩ (.bool true)) W := ((Below.refl _ _).alloc (Nat.le_refl _) _).trans (hw.mono (by simp))
    have mW := m1.below hbl
    refine ⟨⟨P2, hF2.out, ⟨_, _, mW.blk, mW.rop, mW.rwe, mW.far⟩, mW.hB, mW.prog, by rw [hFl]; exact hlen, by simp [hwlen]⟩, ?_⟩
    exact (((HCW.out.mono (Nat.le_refl _) (by simp)).trans (ChgT.of_below HB3.out)).trans (m2.mono (Nat.le_refl _) (by simp))).trans (ChgT.of_below hbl)
  clear hmw
  go_wp2_with fail
  refine Calls.mono (hbe.out _) ?_
  rintro e w4 ⟨rfl, hb4, hbb⟩
  rw [esz] at hb4 hbb ⊢
  have nx4 := (hbb.block _ (Nat.lt_succ_self _)).trans nb0
  obtain ⟨v1, _⟩ := nb_facts nx4
  have l4 := (Array.getElem?_eq_some_iff.1 nx4).1
  rw [← esz] at hbb
  have HBB : Hid _ := hbb
  clear hbe hbb nb0 dgw hfz z1 nx3 d10
  go_wp2_with fail
  refine Calls.mono (HAM.out _ _ hb4) ?_
  rintro e w5 ⟨rfl, rfl⟩
  clear HAM
  go_wp2
  go_ret
  exact ⟨rfl, HFIN.out _ HBB.out⟩

set_option maxHeartbeats 4000000 in
/-- There is no such process: refused. -/
theorem kstep_none {w : World} {B hb : Nat} {P : PLay} {ops : List Op3} {went : List Bool} (h : KRep Fr w B hb P ops went) (p : Int) (hp : p < 0 ∨ (P.procs.length : Int) ≤ p) (draw : Int) :
    Calls Try.prog 25 #[.pointer (some ⟨hb, 0, none⟩), I p, I draw] w fun e w' => e = .returned (.bool true) ∧ Below w.heap.size w w' := by
  have hs := pStep_none h.prog p hp draw
  have c0 := h.t
  obtain ⟨_, _, _, ao, cap, c9, q1, q2, q3⟩ := h.conf
  have hlen := h.len
  rw [hlen] at c9 q1 q2
  unfold maxLen at q2 q3
  replace hs : Hid _ := hs
  clear h
  by_cases h0 : p < 0
  · have b0 : decide (p < 0) = true := by simp [h0]
    go_enter Try.func25, Try.ntmps25
    go_wp2_with fail
    refine Calls.mono hs.out ?_
    rintro e w1 ⟨rfl, hb1⟩
    go_wp2
    go_ret
    exact ⟨rfl, hb1⟩
  · have b0 : decide (p < 0) = false := by simp; omega
    have b1 : (P.procs.length : Int) ≤ p := by omega
    go_enter Try.func25, Try.ntmps25
    go_wp2_with fail
    refine Calls.mono hs.out ?_
    rintro e w1 ⟨rfl, hb1⟩
    go_wp2
    go_ret
    exact ⟨rfl, hb1⟩

set_option maxHeartbeats 4000000 in
/-- Who is Done does not step. -/
theorem kstep_done {w : World} {B hb : Nat} {P : PLay} {ops : List Op3} {went : List Bool} (h : KRep Fr w B hb P ops went) (i : Nat) (hi : i < P.procs.length) (ha : (toldP P i).1 = 20) (draw : Int)
    (hs : ∀ W, PRep Fr W B P → Calls Try.prog 44 #[.pointer (some ⟨P.tb, 0, none⟩), I i, I draw] W fun x w' => x = .returned (.tuple #[I 0, I 5]) ∧ Below W.heap.size W w') :
    Calls Try.prog 25 #[.pointer (some ⟨hb, 0, none⟩), I i, I draw] w fun e w' => e = .returned (.bool true) ∧ Below w.heap.size w w' := by
  have hat := fun W (hw : Below w.heap.size w W) => kat_c (h.below hw) (i : Int)
  rw [ha] at hat
  have hsp := fun W (hw : Below w.heap.size w W) => hs W (h.prog.below hw)
  obtain ⟨_, _, _, ao, cap, c9, q1, q2, q3⟩ := h.conf
  have hlen := h.len
  rw [hlen] at c9 q1 q2
  unfold maxLen at q2 q3
  have HT : Hid (∀ W, Below w.heap.size w W → W.cell? ⟨hb, 0, none⟩ = some (.pointer (some ⟨P.tb, 0, none⟩))) := fun W hw => (h.below hw).t
  have l0 := cell_lt c9
  have hi0 : decide ((i : Int) < 0) = false := by simp
  have hil : (i : Int) < (P.procs.length : Int) := by omega
  generalize (toldP P i).2.1 = a1 at *
  generalize (toldP P i).2.2 = a2 at *
  replace hat : Hid _ := hat
  replace hsp : Hid _ := hsp
  clear h hs ha
  go_enter Try.func25, Try.ntmps25
  go_wp2_with fail
  refine Calls.mono (hat.out _ (Below.refl _ _)) ?_
  rintro e w1 ⟨rfl, hb1⟩
  have c0 := HT.out w1 hb1
  have l1 := cell_lt c0
  clear hat c9
  have hba := hb1.alloc hb1.size (.cells #[I 20, I a1, I a2] 48)
  have hna : (w1.alloc (.cells #[I 20, I a1, I a2] 48)).heap[w1.heap.size]? = some (.cells #[I 20, I a1, I a2] 48 (0, 0)) := nb_alloc _ _ _
  go_wp2_with fail
  refine Calls.mono (hsp.out _ hba) ?_
  rintro e w2 ⟨rfl, hb2⟩
  have nx2 := (hb2.block _ (by simp)).trans hna
  obtain ⟨y1, _⟩ := nb_facts nx2
  have l2 := (Array.getElem?_eq_some_iff.1 nx2).1
  clear hsp
  go_wp2
  go_ret
  exact ⟨rfl, hba.trans (hb2.mono hba.size)⟩

end Go.Proofs.Ytjnmpejcegmkhab

namespace Go.Proofs.Ytjnmpejcegmkhab
open Go.RowKit
variable {Fr : Nat → Prop}

def wentTo (went : List Bool) : Nat → List Bool
  | 0 => went
  | k + 1 => (wentTo went k).set k true
theorem wentTo_len (went : List Bool) : ∀ k, (wentTo went k).length = went.length
  | 0 => rfl
  | k + 1 => by rw [wentTo, List.length_set, wentTo_len went k]
theorem wentTo_at (went : List Bool) : ∀ k j, (hj : j < went.length) → (hj' : j < (wentTo went k).length) → (wentTo went k)[j] = if j < k then true else went[j]
  | 0, j, hj, _ => by simp [wentTo]
  | k + 1, j, hj, hj' => by
    have ih := wentTo_at went k j hj (by rw [wentTo_len]; exact hj)
    simp only [wentTo]
    by_cases e : j = k
    · subst e
      rw [List.getElem_set_self, if_pos (by omega)]
    · rw [List.getElem_set_ne (Ne.symm e), ih]
      by_cases e2 : j < k
      · rw [if_pos e2, if_pos (by omega)]
      · rw [if_neg e2, if_neg (by omega)]
theorem wentTo_all (went : List Bool) : wentTo went went.length = went.map fun _ => true := by
  refine List.ext_getElem (by rw [wentTo_len]; simp) fun j h1 h2 => ?_
  rw [wentTo_at went _ j (by rw [wentTo_len] at h1; exact h1) h1, if_pos (by rw [wentTo_len] at h1; exact h1)]
  simp

set_option maxHeartbeats 4000000 in
theorem krest_bad {w : World} {B hb : Nat} {P : PLay} {ops : List Op3} {went : List Bool} (h : KRep Fr w B hb P ops went) (a b : Int) (ha : a < 0 ∨ 100 < a)
    (hs : ∀ W, Calls Try.prog 47 #[.pointer (some ⟨P.tb, 0, none⟩), I a, I b] W fun x w' => x = .returned (.tuple #[I 0, I 6]) ∧ w' = W) :
    Calls Try.prog 26 #[.pointer (some ⟨hb, 0, none⟩), I a, I b] w fun e w' => e = .returned (.bool true) ∧ Below w.heap.size w w' := by
  have c0 := h.t
  replace hs : Hid _ := hs
  clear h
  by_cases h0 : a < 0
  · have b0 : decide (a < 0) = true := by simp [h0]
    go_enter Try.func26, Try.ntmps26
    go_wp2_with fail
    refine Calls.mono (hs.out _) ?_
    rintro e w1 ⟨rfl, rfl⟩
    go_wp2
    go_ret
    exact ⟨rfl, Below.refl _ _⟩
  · have b0 : decide (a < 0) = false := by simp; omega
    have b1 : decide ((100 : Int) < a) = true := by simp; omega
    clear ha
    go_enter Try.func26, Try.ntmps26
    go_wp2_with fail
    refine Calls.mono (hs.out _) ?_
    rintro e w1 ⟨rfl, rfl⟩
    go_wp2
    go_ret
    exact ⟨rfl, Below.refl _ _⟩

set_option maxHeartbeats 8000000 in
set_option maxRecDepth 100000 in
theorem krest_run {w : World} {B hb : Nat} {P : PLay} {ops : List Op3} {went : List Bool} (h : KRep Fr w B hb P ops went) (hB : B ≤ w.heap.size) (r : Nat) (hr : r ≤ 100) (b : Int) (lv : Nat) (F : PLay → Prop) (hF : ∀ P', F P' → P'.tb = P.tb ∧ P'.c = P.c ∧ P'.procs.length = P.procs.length ∧ pliveL P'.procs = lv)
    (hs : ∀ W, PRep Fr W B P → B ≤ W.heap.size → Calls Try.prog 47 #[.pointer (some ⟨P.tb, 0, none⟩), I r, I b] W fun x w' => x = .returned (.tuple #[I lv, I 0]) ∧ (∃ P', F P' ∧ PRep Fr w' B P') ∧ ChgT Fr B [81, 101, 108] W w') :
    Calls Try.prog 26 #[.pointer (some ⟨hb, 0, none⟩), I r, I b] w fun e w' => e = .returned (.bool true) ∧ (∃ P', F P' ∧ KRep Fr w' B hb P' ops (if (r : Int) = 0 then went else went.map fun _ => true)) ∧ ChgT Fr B [81, 101, 108, 4] w w' := by
  have HW0 : Hid ((r : Int) = 0 → (if (r : Int) = 0 then went else went.map fun _ => true) = went) := fun e => if_pos e
  have HW1 : Hid (¬ (r : Int) = 0 → (if (r : Int) = 0 then went else went.map fun _ => true) = went.map fun _ => true) := fun e => if_neg e
  generalize (if (r : Int) = 0 then went else went.map fun _ => true) = wt at *
  have c0 := h.t
  have l0 := cell_lt c0
  have hc := hs w h.prog hB
  obtain ⟨ov, wv, hm⟩ := h.mem
  have hlen := h.len
  have hwlen := h.wlen
  obtain ⟨_, _, _, ao, cap, c9, q1, q2, q3⟩ := h.conf
  rw [hlen] at c9 q1 q2
  unfold maxLen at q2 q3
  have b0 : decide ((r : Int) < 0) = false := by simp
  have b1 : decide ((100 : Int) < (r : Int)) = false := by simp; omega
  have hK : Hid (∀ W P' wt, F P' → wt.length = went.length → KMem Fr W B hb P' ov wv ops wt → KRep Fr W B hb P' ops wt) := by
    intro W P' wt hf hl hmW
    obtain ⟨_, _, x, _⟩ := hF P' hf
    exact ⟨⟨_, _, hmW.blk, hmW.rop, hmW.rwe, hmW.far⟩, hmW.hB, hmW.prog, by rw [x]; exact hlen, by omega⟩
  have HL : Hid (∀ W P' wt, F P' → wt.length = went.length → KMem Fr W B hb P' ov wv ops wt → Calls Try.prog 15 #[.pointer (some ⟨hb, 0, none⟩)] W fun e w' => e = .returned (I lv) ∧ Below W.heap.size W w') := by
    intro W P' wt hf hl hmW
    have := klive_c (hK.out W P' wt hf hl hmW)
    rw [(hF P' hf).2.2.2] at this
    exact this
  have H9 : Hid (∀ W P' wt, KMem Fr W B hb P' ov wv ops wt → W.cell? ⟨hb, 9, none⟩ = some (.slice ao P.procs.length cap)) := by
    intro W P' wt hmW
    have e0 : w.cell? ⟨hb, 9, none⟩ = some ov := by rw [(nb_facts hm.blk).1 9]; rfl
    rw [e0] at c9
    rw [(nb_facts hmW.blk).1 9, ← c9]
    rfl
  replace hc : Hid _ := hc
  replace hF : Hid _ := hF
  clear h hs
  go_enter Try.func26, Try.ntmps26
  go_wp2_with fail
  refine Calls.mono hc.out ?_
  rintro e w1 ⟨rfl, ⟨P', hf, hp⟩, hch⟩
  obtain ⟨f1, f2, f3, f4⟩ := hF.out P' hf
  have hm1 := hm.stepped hch hp f1 f2
  have HCH : Hid _ := hch
  replace hf : Hid _ := hf
  clear hc hF hm hch hp f1 f2 f3 f4 c0 c9
  by_cases hr0 : r = 0
  · subst hr0
    have d9 := H9.out _ _ _ hm1
    have lh := cell_lt d9
    have HM : Hid _ := hm1
    have hlv := HL.out _ _ _ hf.out rfl hm1
    replace hlv : Hid _ := hlv
    have HR := hK.out _ _ _ hf.out rfl hm1
    replace HR : Hid _ := HR
    clear hm1
    go_wp2_with fail
    go_loopw [9] (fun pp wr => pp = .int .i64 0 ∧ wr = w1) (fun _ _ => 0)
    case atStart => exact ⟨rfl, rfl⟩
    case round =>
      obtain ⟨rfl, rfl⟩ := hrel
      have e0 : wt = went := HW0.out rfl
      subst e0
      clear HW0 HW1
      by_cases hnp : 0 < P.procs.length
      · have bn : decide ((0 : Int) < (P.procs.length : Int)) = true := decide_eq_true (by omega)
        go_wp2_with fail
        refine Calls.mono hlv.out ?_
        rintro e w2 ⟨rfl, hb2⟩
        go_wp2
        go_ret
        exact ⟨rfl, ⟨P', hf.out, HR.out.below hb2⟩, (HCH.out.mono (Nat.le_refl _) (by simp)).trans (ChgT.of_below hb2)⟩
      · have bn : decide ((0 : Int) < (P.procs.length : Int)) = false := decide_eq_false (by omega)
        go_wp2_with fail
        refine Calls.mono hlv.out ?_
        rintro e w2 ⟨rfl, hb2⟩
        go_wp2
        go_ret
        exact ⟨rfl, ⟨P', hf.out, HR.out.below hb2⟩, (HCH.out.mono (Nat.le_refl _) (by simp)).trans (ChgT.of_below hb2)⟩
  · have br : decide ((0 : Int) < (r : Int)) = true := by simp; omega
    have e0 : wt = went.map fun _ => true := HW1.out (by omega)
    subst e0
    clear HW0 HW1
    go_wp2_with fail
    go_loopw [9] (fun pp wr => ∃ k : Nat, k ≤ P.procs.length ∧ pp = .int .i64 k ∧ KMem Fr wr B hb P' ov wv ops (wentTo went k) ∧ ChgT Fr B [4] w1 wr) (fun pp _ => P.procs.length - (intOf pp).toNat)
    case atStart => exact ⟨0, Nat.zero_le _, rfl, hm1, ChgT.of_below (Below.refl _ _)⟩
    case round =>
      obtain ⟨k, hk, rfl, hmr, hcr⟩ := hrel
      have d9 := H9.out _ _ _ hmr
      have lh := cell_lt d9
      by_cases hlt : k < P.procs.length
      · obtain ⟨ao2, cap2, e1, r1, r2, r3, hrc⟩ := ownsRow_cells hmr.rwe
        have hkw : k < (wentTo went k).length := by rw [wentTo_len]; omega
        obtain ⟨gw, rfl, _, hgc⟩ := hrc k (.bool ((wentTo went k)[k])) (by simp [List.getElem?_eq_getElem hkw])
        have ewl : (wentTo went k).length = P.procs.length := by rw [wentTo_len]; omega
        have d10 : wr.cell? ⟨hb, 10, none⟩ = some (.slice (some ⟨gw, 0, none⟩) P.procs.length cap2) := by rw [(nb_facts hmr.blk).1 10, ← ewl, ← e1]; rfl
        rw [ewl] at r1 r2
        unfold maxLen at r2 r3
        have hmr' := hmr
        rw [e1] at hmr'
        obtain ⟨m1, m2⟩ := hmr'.wentSet k true
        rw [← e1] at m1
        have HM1 : Hid _ := m1
        have HM2 : Hid _ := m2
        have hfz : wr.frozen? ⟨gw, k, none⟩ = false := by
          obtain ⟨cur, hbk⟩ := ownsRow_block hmr'.rwe (g := gw) rfl
          exact (nb_facts hbk).2 k
        have dgw : wr.cell? ⟨gw, k, none⟩ = some (.bool ((wentTo went k)[k])) := by simpa using hgc
        have lgw := cell_lt dgw
        have hkl : (k : Int) < (P.procs.length : Int) := by omega
        generalize (wentTo went k)[k] = oldb at *
        clear hmr hmr' e1 hrc m1 m2 hgc
        go_wp2_with fail
        go_roundw
        case rel => exact ⟨k + 1, by omega, by go_num, HM1.out, hcr.trans HM2.out⟩
        case measure => simp [intOf]; omega
      · have ek : k = P.procs.length := by omega
        have hge : decide ((k : Int) < (P.procs.length : Int)) = false := by simp; omega
        have hlv := HL.out _ _ _ hf.out (wentTo_len went k) hmr
        replace hlv : Hid _ := hlv
        have HR := hK.out _ _ _ hf.out (wentTo_len went k) hmr
        have ew : wentTo went k = went.map fun _ => true := by rw [← wentTo_all, show k = went.length by omega]
        rw [ew] at HR
        replace HR : Hid _ := HR
        clear ew hmr
        go_wp2_with fail
        refine Calls.mono hlv.out ?_
        rintro e w2 ⟨rfl, hb2⟩
        go_wp2
        go_ret
        exact ⟨rfl, ⟨P', hf.out, HR.out.below hb2⟩, ((HCH.out.mono (Nat.le_refl _) (by simp)).trans (hcr.mono (Nat.le_refl _) (by simp))).trans (ChgT.of_below hb2)⟩

end Go.Proofs.Ytjnmpejcegmkhab

namespace Go.Proofs.Ytjnmpejcegmkhab
open Go.RowKit
set_option linter.unusedVariables false
variable {Fr : Nat → Prop}

theorem len_ite {p : Prop} [Decidable p] {a b : Lay} {n : Nat} (h1 : p → a.procs.length = n) (h2 : ¬ p → b.procs.length = n) : (if p then a else b).procs.length = n := by
  by_cases hp : p
  · rw [if_pos hp]; exact h1 hp
  · rw [if_neg hp]; exact h2 hp
theorem lstep_len (L : Lay) (i : Nat) (d : Int) : (lstep L i d).procs.length = L.procs.length := by
  unfold lstep
  cases L.procs[i]? with
  | none => rfl
  | some x =>
    simp only
    refine len_ite (fun _ => ?_) (fun _ => len_ite (fun _ => by simp) (fun _ => len_ite (fun _ => by simp) (fun _ => len_ite (fun _ => by simp) (fun _ => len_ite (fun _ => len_ite (fun _ => by simp) (fun _ => len_ite (fun _ => by simp) (fun _ => by simp))) (fun _ => len_ite (fun _ => len_ite (fun _ => by simp) (fun _ => by simp)) (fun _ => len_ite (fun _ => ?_) (fun _ => len_ite (fun _ => len_ite (fun _ => by simp) (fun _ => len_ite (fun _ => by simp) (fun _ => by simp))) (fun _ => by simp))))))))
    · cases L.procs[(incPr x.2).mind.toNat]? with
      | none => simp
      | some y => exact len_ite (fun _ => by simp) (fun _ => by simp)
    · cases itemH (L.hist (incPr x.2).node.toNat) (incPr x.2).ticket with
      | none => simp
      | some z => simp

theorem CRel.next {c : Conf} {B : Nat} {L : Lay} {P : PLay} (h : CRel c L P) {i : Nat} (hi : i < L.procs.length) (hl : (L.procs[i]).2.phase ≠ 20) (draw : Int) :
    ∃ ph, ProgStep Fr B P i draw ph (fun P' => P'.tb = P.tb ∧ CRel c (lstep L i draw) P') ∧ RefStep Fr B L i draw ph (fun L' => L'.tb = L.tb ∧ Same (lstep L i draw) L') ∧ ∃ P', CRel c (lstep L i draw) P' := by
  obtain ⟨v, n, hh⟩ := h.rel.here hi hl
  obtain ⟨ph, FP, FL, h1, h2, h3, ⟨⟨P0, hP0⟩, ⟨L0, hL0⟩, h4⟩, h5, h6⟩ := hh.both (B := B) h.ck draw
  have key : ∀ P', FP P' → CRel c (lstep L i draw) P' := fun P' hP => (h1 L0 P' hL0 hP).same (h4 L0 hL0).symm
  refine ⟨ph, ⟨fun W a b => (h5.1 W a b).mono ?_, fun W a b => (h5.2 W a b).mono ?_⟩, fun W a b => (h6 W a b).mono ?_, P0, key P0 hP0⟩
  · rintro e w' ⟨e0, ⟨P', x, y⟩, z⟩
    exact ⟨e0, ⟨P', ⟨h2 P' x, key P' x⟩, y⟩, z⟩
  · rintro e w' ⟨e0, ⟨P', x, y⟩, z⟩
    exact ⟨e0, ⟨P', ⟨h2 P' x, key P' x⟩, y⟩, z⟩
  · rintro e w' ⟨e0, ⟨L', x, y⟩, z⟩
    exact ⟨e0, ⟨L', ⟨h3 L' x, h4 L' x⟩, y⟩, z⟩

/-- The first k processes take their step of a round. -/
def lroundTo (L : Lay) (d : Int) : Nat → Lay
  | 0 => L
  | k + 1 => if ((lroundTo L d k).procs.getD k (0, newPr ⟨0, 0, 0⟩)).2.phase = 20 then lroundTo L d k else lstep (lroundTo L d k) k (d + k)
theorem lroundTo_len (L : Lay) (d : Int) : ∀ k, (lroundTo L d k).procs.length = L.procs.length
  | 0 => rfl
  | k + 1 => by
    unfold lroundTo
    split
    · exact lroundTo_len L d k
    · rw [lstep_len, lroundTo_len L d k]
def lrest (L : Lay) (m : Int) : Nat → Lay
  | 0 => L
  | r + 1 => lroundTo (lrest L m r) (m + r) L.procs.length
theorem lrest_len (L : Lay) (m : Int) : ∀ r, (lrest L m r).procs.length = L.procs.length
  | 0 => rfl
  | r + 1 => by unfold lrest; rw [lroundTo_len, lrest_len L m r]

theorem CRel.plen {c : Conf} {L : Lay} {P : PLay} (h : CRel c L P) : P.procs.length = L.procs.length := by rw [h.rel.procs, List.length_map]
theorem CRel.pphase {c : Conf} {L : Lay} {P : PLay} (h : CRel c L P) (k : Nat) (hk : k < L.procs.length) (hk' : k < P.procs.length) : (P.procs[k]).phase = (L.procs[k]).2.phase := by
  have : P.procs[k] = toPP (L.procs[k]).2 := by simp [h.rel.procs]
  rw [this]
  rfl

set_option maxHeartbeats 4000000 in
theorem pround_c {c : Conf} {w : World} {B : Nat} {L : Lay} {P : PLay} (hr : CRel c L P) (h : PRep Fr w B P) (hB : B ≤ w.heap.size) (d : Int) (hd0 : 0 ≤ d) (hd : d ≤ 1000) :
    Calls Try.prog 58 #[.pointer (some ⟨P.tb, 0, none⟩), I d] w fun e w' => e = .returned (.tuple #[]) ∧ (∃ P', P'.tb = P.tb ∧ CRel c (lroundTo L d L.procs.length) P' ∧ PRep Fr w' B P') ∧ ChgT Fr B [81, 101, 108] w w' := by
  have hnp := hr.rel.np
  have HK : Hid (∀ (k : Nat) (P' : PLay) (wr : World), k < L.procs.length → CRel c (lroundTo L d k) P' → PRep Fr wr B P' → P'.tb = P.tb →
      ∃ (g : Nat) (cap : Nat) (ph : Int), wr.cell? ⟨P.tb, 680, none⟩ = some (.slice (some ⟨g, 0, none⟩) L.procs.length cap) ∧ L.procs.length ≤ cap ∧ cap ≤ 2 ^ 63 - 1 ∧ wr.cell? ⟨g, k * 11 + 3, none⟩ = some (I ph) ∧
        (ph = 20 → CRel c (lroundTo L d (k + 1)) P') ∧ (ph ≠ 20 → B ≤ wr.heap.size → Calls Try.prog 56 #[.pointer (some ⟨P.tb, 0, none⟩), I k, I (d + k)] wr fun e w' => e = .returned (.tuple #[]) ∧ (∃ P'', P''.tb = P.tb ∧ CRel c (lroundTo L d (k + 1)) P'' ∧ PRep Fr w' B P'') ∧ ChgT Fr B [81, 101, 108] wr w')) := by
    intro k P' wr hk hc hp htb
    have hlL := lroundTo_len L d k
    have hlP := hc.plen
    obtain ⟨ao, cap, e1, q1, q2, q3, hx⟩ := hp.pp_at
    have p1 := hp.pcell
    have hkP : k < P'.procs.length := by omega
    have hkL : k < (lroundTo L d k).procs.length := by omega
    obtain ⟨g, rfl, hf⟩ := hx k hkP
    have hph := hc.pphase k hkL hkP
    have eg : (lroundTo L d k).procs.getD k (0, newPr ⟨0, 0, 0⟩) = (lroundTo L d k).procs[k] := by simp [List.getD_eq_getElem?_getD, List.getElem?_eq_getElem hkL]
    have el : P'.procs.length = L.procs.length := by omega
    rw [e1, el, htb] at p1
    refine ⟨g, cap, (P'.procs[k]).phase, p1, by omega, by unfold maxLen at q3; omega, hf 3 (by omega), fun h20 => ?_, fun h20 hBr => ?_⟩
    · unfold lroundTo
      rw [eg, if_pos (by rw [← hph]; exact h20)]
      exact hc
    · obtain ⟨ph, hp1, _, _⟩ := hc.next (Fr := Fr) (B := B) hkL (by rw [← hph]; exact h20) (d + k)
      have := hp1.1 wr hp hBr
      rw [htb] at this
      refine this.mono ?_
      rintro e w' ⟨e0, ⟨P'', ⟨a, b⟩, y⟩, z⟩
      refine ⟨e0, ⟨P'', a, ?_, y⟩, z⟩
      unfold lroundTo
      rw [eg, if_neg (by rw [← hph]; exact h20)]
      exact b
  have HE : Hid (∀ (P' : PLay) (wr : World) (k : Nat), CRel c (lroundTo L d k) P' → PRep Fr wr B P' → P'.tb = P.tb → ∃ ao cap, wr.cell? ⟨P.tb, 680, none⟩ = some (.slice ao L.procs.length cap)) := by
    intro P' wr k hc hp htb
    obtain ⟨ao, cap, e1, _⟩ := hp.pp_at
    have p1 := hp.pcell
    have hlL := lroundTo_len L d k
    have hlP := hc.plen
    have el : P'.procs.length = L.procs.length := by omega
    rw [e1, el, htb] at p1
    exact ⟨ao, cap, p1⟩
  have H0 : Hid (CRel c (lroundTo L d 0) P) := hr
  clear hr
  generalize hn : L.procs.length = np at *
  go_enter Try.func58, Try.ntmps58
  go_wp2_with fail
  go_loopw [4] (fun i wr => ∃ (k : Nat) (P' : PLay), k ≤ np ∧ i = .int .i64 k ∧ P'.tb = P.tb ∧ CRel c (lroundTo L d k) P' ∧ PRep Fr wr B P' ∧ ChgT Fr B [81, 101, 108] w wr) (fun i _ => np - (intOf i).toNat)
  case atStart => exact ⟨0, P, by omega, rfl, rfl, H0.out, h, ChgT.refl _ _ _⟩
  case round =>
    obtain ⟨k, P', hk, rfl, htb, hc, hp, hch⟩ := hrel
    have hBr : B ≤ wr.heap.size := Nat.le_trans hB hch.size
    by_cases hlt : k < np
    · obtain ⟨g, cap, ph, p1, p2, p3, c3, hd20, hst⟩ := HK.out k P' wr hlt hc hp htb
      by_cases h20 : ph = 20
      · have hc' := hd20 h20
        have b1 : (ph != 20) = false := by simp [h20]
        replace hc' : Hid _ := hc'
        replace hch : Hid _ := hch
        replace hp : Hid _ := hp
        replace htb : Hid _ := htb
        clear hd20 hst h20 hc
        go_wp2
        go_roundw
        case rel => exact ⟨k + 1, P', by omega, by go_num, htb.out, hc'.out, hp.out, hch.out⟩
        case measure => simp [intOf]; omega
      · have hcall := hst h20 hBr
        have b1 : (ph != 20) = true := by simp [h20]
        replace hcall : Hid _ := hcall
        replace hch : Hid _ := hch
        clear hd20 hst h20 hc hp htb
        go_wp2_with fail
        refine Calls.mono hcall.out ?_
        rintro e w' ⟨rfl, ⟨P'', t1, t2, t3⟩, t4⟩
        have hch2 := hch.out.trans t4
        replace t1 : Hid _ := t1
        replace t2 : Hid _ := t2
        replace t3 : Hid _ := t3
        replace hch2 : Hid _ := hch2
        clear hcall hch t4 p1 c3
        go_wp2
        go_roundw
        case rel => exact ⟨k + 1, P'', by omega, by go_num, t1.out, t2.out, t3.out, hch2.out⟩
        case measure => simp [intOf]; omega
    · have ek : k = np := by omega
      obtain ⟨ao, cap, p1⟩ := HE.out P' wr k hc hp htb
      subst ek
      replace hc : Hid _ := hc
      replace hch : Hid _ := hch
      replace hp : Hid _ := hp
      replace htb : Hid _ := htb
      go_wp2_with fail
      go_end0
      exact ⟨rfl, ⟨P', htb.out, hc.out, hp.out⟩, hch.out⟩

set_option maxHeartbeats 4000000 in
theorem prest_ok {c : Conf} {w : World} {B : Nat} {L : Lay} {P : PLay} (hr : CRel c L P) (h : PRep Fr w B P) (hB : B ≤ w.heap.size) (r : Nat) (hr9 : r ≤ 100) (draw : Int) :
    Calls Try.prog 47 #[.pointer (some ⟨P.tb, 0, none⟩), I r, I draw] w fun e w' => e = .returned (.tuple #[I (liveL (lrest L (draw % 12) r).procs), I 0]) ∧ (∃ P', P'.tb = P.tb ∧ CRel c (lrest L (draw % 12) r) P' ∧ PRep Fr w' B P') ∧ ChgT Fr B [81, 101, 108] w w' := by
  have hm := fun W => modulo_c draw 12 (by omega) (by omega) W
  have m0 := Int.emod_nonneg draw (show (12 : Int) ≠ 0 by omega)
  have m1 := Int.emod_lt_of_pos draw (show (0 : Int) < 12 by omega)
  have hm' : ∀ W, Calls Try.prog 57 #[I draw, I 12] W fun e w' => e = .returned (I (draw % 12)) ∧ w' = W := hm
  clear hm
  have HR : Hid (∀ (k : Nat) (P' : PLay) (wr : World), k < r → CRel c (lrest L (draw % 12) k) P' → PRep Fr wr B P' → P'.tb = P.tb → B ≤ wr.heap.size → Calls Try.prog 58 #[.pointer (some ⟨P.tb, 0, none⟩), I (draw % 12 + k)] wr fun e w' => e = .returned (.tuple #[]) ∧ (∃ P'', P''.tb = P.tb ∧ CRel c (lrest L (draw % 12) (k + 1)) P'' ∧ PRep Fr w' B P'') ∧ ChgT Fr B [81, 101, 108] wr w') := by
    intro k P' wr hk hc hp htb hBr
    have := pround_c hc hp hBr (draw % 12 + k) (by omega) (by omega)
    rw [htb, lrest_len] at this
    exact this
  have HL : Hid (∀ (P' : PLay) (wr : World), CRel c (lrest L (draw % 12) r) P' → PRep Fr wr B P' → P'.tb = P.tb → Calls Try.prog 59 #[.pointer (some ⟨P.tb, 0, none⟩)] wr fun e w' => e = .returned (I (liveL (lrest L (draw % 12) r).procs)) ∧ w' = wr) := by
    intro P' wr hc hp htb
    have := plive_c hp
    rw [htb, plive_w hc.rel] at this
    exact this
  have H0 : Hid (CRel c (lrest L (draw % 12) 0) P) := hr
  replace hm' : Hid _ := hm'
  clear hr
  generalize draw % 12 = m at *
  have hrn : decide ((r : Int) < 0) = false := by simp
  have hr1 : decide ((100 : Int) < (r : Int)) = false := by simp; omega
  go_enter Try.func47, Try.ntmps47
  go_wp2_with fail
  refine Calls.mono (hm'.out _) ?_
  rintro e w1 ⟨rfl, rfl⟩
  clear hm'
  go_wp2_with fail
  go_loopw [9] (fun i wr => ∃ (k : Nat) (P' : PLay), k ≤ r ∧ i = .int .i64 k ∧ P'.tb = P.tb ∧ CRel c (lrest L m k) P' ∧ PRep Fr wr B P' ∧ ChgT Fr B [81, 101, 108] w1 wr) (fun i _ => r - (intOf i).toNat)
  case atStart => exact ⟨0, P, by omega, rfl, rfl, H0.out, h, ChgT.refl _ _ _⟩
  case round =>
    obtain ⟨k, P', hk, rfl, htb, hc, hp, hch⟩ := hrel
    have hBr : B ≤ wr.heap.size := Nat.le_trans hB hch.size
    by_cases hlt : k < r
    · have hcall := HR.out k P' wr hlt hc hp htb hBr
      replace hcall : Hid _ := hcall
      replace hch : Hid _ := hch
      clear hc hp htb
      go_wp2_with fail
      refine Calls.mono hcall.out ?_
      rintro e w' ⟨rfl, ⟨P'', t1, t2, t3⟩, t4⟩
      have hch2 := hch.out.trans t4
      replace t1 : Hid _ := t1
      replace t2 : Hid _ := t2
      replace t3 : Hid _ := t3
      replace hch2 : Hid _ := hch2
      clear hcall hch t4
      go_wp2
      go_roundw
      case rel => exact ⟨k + 1, P'', by omega, by go_num, t1.out, t2.out, t3.out, hch2.out⟩
      case measure => simp [intOf]; omega
    · have ek : k = r := by omega
      subst ek
      have hcall := HL.out P' wr hc hp htb
      replace hcall : Hid _ := hcall
      replace hc : Hid _ := hc
      replace hch : Hid _ := hch
      replace hp : Hid _ := hp
      replace htb : Hid _ := htb
      obtain ⟨lv, hlv⟩ : ∃ lv, lv = liveL (lrest L m k).procs := ⟨_, rfl⟩
      rw [← hlv] at hcall
      have HLV : Hid (lv = liveL (lrest L m k).procs) := hlv
      clear hlv
      go_wp2_with fail
      refine Calls.mono hcall.out ?_
      rintro e w' ⟨rfl, rfl⟩
      go_wp2
      go_ret2
      refine ⟨?_, ⟨P', htb.out, hc.out, hp.out⟩, hch.out⟩
      rw [← HLV.out]
      rfl

set_option maxHeartbeats 2000000 in
theorem prest_err {w : World} (tb : Nat) (a b : Int) (ha : a < 0 ∨ 100 < a) :
    Calls Try.prog 47 #[.pointer (some ⟨tb, 0, none⟩), I a, I b] w fun e w' => e = .returned (.tuple #[I 0, I 6]) ∧ w' = w := by
  by_cases h0 : a < 0
  · clear ha
    go_enter Try.func47, Try.ntmps47
    go_wp2
    go_ret2
    exact ⟨rfl, rfl⟩
  · have hd : decide (a < 0) = false := by simp; omega
    have h1 : 100 < a := by omega
    clear ha h0
    go_enter Try.func47, Try.ntmps47
    go_wp2
    go_ret2
    exact ⟨rfl, rfl⟩

end Go.Proofs.Ytjnmpejcegmkhab
