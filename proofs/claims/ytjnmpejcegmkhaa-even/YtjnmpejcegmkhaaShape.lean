/- The nodes that are told are a tree. No statement of the seat is proved here. -/
import Derived.Test.YtjnmpejcegmkhaaH7
import Derived.Test.YtjnmpejcegmkhaaDBoth
namespace Go.Proofs.Ytjnmpejcegmkhaa
open Go.RowKit

def tN (f : Nat → Bool) : Nat → Nat
  | 0 => 0
  | k + 1 => tN f k + if f k then 1 else 0
theorem tN_pair (T J : Nat → Bool) (h0 : T 0 = false) (h1 : T 1 = true) (hJ : J 0 = false) : ∀ m, (∀ k, 1 ≤ k → k < m → T (2 * k) = J k ∧ T (2 * k + 1) = J k) → 1 ≤ m → tN T (2 * m) = 1 + 2 * tN J m
  | 0, _, h => by omega
  | 1, _, _ => by simp [tN, h0, h1, hJ]
  | m + 2, hk, _ => by
    have ih := tN_pair T J h0 h1 hJ (m + 1) (fun k a b => hk k a (by omega)) (by omega)
    obtain ⟨e1, e2⟩ := hk (m + 1) (by omega) (by omega)
    have e : 2 * (m + 2) = 2 * (m + 1) + 1 + 1 := by omega
    rw [e]
    simp only [tN] at ih ⊢
    rw [e1, e2, ih]
    omega
theorem tN_ext (f : Nat → Bool) (m : Nat) : ∀ k, m ≤ k → (∀ j, m ≤ j → j < k → f j = false) → tN f k = tN f m
  | 0, h, _ => by rw [show m = 0 by omega]
  | k + 1, h, hf => by
    by_cases e : m = k + 1
    · rw [e]
    · simp only [tN]
      rw [tN_ext f m k (by omega) (fun j a b => hf j a (by omega)), hf k (by omega) (by omega)]
      simp

def isV (L : Lay) (v : Nat) : Prop := v ≠ 0 ∧ formH (L.hist v) ≠ 3
theorem rnodes_mem (L : Lay) : ∀ k (d : ND), d ∈ rnodesTo L k ↔ ∃ v, v < k ∧ isV L v ∧ d = rnode L v := by
  intro k d
  induction k with
  | zero => simp [rnodesTo]
  | succ k ih =>
    rw [rnodesTo_succ, List.mem_append, ih]
    constructor
    · rintro (⟨v, a, b⟩ | h)
      · exact ⟨v, by omega, b⟩
      · split at h
        · simp at h
        · rename_i hn
          simp only [List.mem_cons, List.not_mem_nil, or_false] at h
          exact ⟨k, by omega, ⟨fun e => hn (Or.inl e), fun e => hn (Or.inr e)⟩, h⟩
    · rintro ⟨v, a, b, e⟩
      by_cases ev : v = k
      · right
        subst ev
        rw [if_neg (by rintro (x | x); exact b.1 x; exact b.2 x), e]
        simp
      · exact Or.inl ⟨v, by omega, b, e⟩
theorem rnode_num (L : Lay) (v : Nat) : (rnode L v).num = v ∧ (rnode L v).depth = (Nat.log2 v : Int) ∧ (rnode L v).rank = (rank v : Int) ∧ (rnode L v).inner = decide (formH (L.hist v) = 1) := by
  unfold rnode
  split
  · rename_i h; simp [h]
  · rename_i h; simp [h]
theorem rnodes_rise (L : Lay) : ∀ k, (rnodesTo L k).Pairwise fun a b => a.num < b.num
  | 0 => by simp [rnodesTo]
  | k + 1 => by
    rw [rnodesTo_succ, List.pairwise_append]
    refine ⟨rnodes_rise L k, ?_, fun a ha b hb => ?_⟩
    · split <;> simp
    · obtain ⟨v, hv, _, rfl⟩ := (rnodes_mem L k a).1 ha
      split at hb
      · simp at hb
      · simp only [List.mem_cons, List.not_mem_nil, or_false] at hb
        subst hb
        rw [(rnode_num L v).1, (rnode_num L k).1]
        omega
theorem rnodes_len (L : Lay) : ∀ k, (rnodesTo L k).length = tN (fun v => decide (v ≠ 0 ∧ formH (L.hist v) ≠ 3)) k
  | 0 => rfl
  | k + 1 => by
    rw [rnodesTo_succ, List.length_append, rnodes_len L k]
    simp only [tN]
    congr 1
    by_cases h : k = 0 ∨ formH (L.hist k) = 3
    · rw [if_pos h, if_neg]
      · rfl
      · simp only [decide_eq_true_eq]
        rintro ⟨a, b⟩
        rcases h with h | h
        · exact a h
        · exact b h
    · rw [if_neg h, if_pos]
      · rfl
      · simp only [decide_eq_true_eq]
        exact ⟨fun e => h (Or.inl e), fun e => h (Or.inr e)⟩
theorem rnodes_inn (L : Lay) : ∀ k, innN (rnodesTo L k) = tN (fun v => decide (v ≠ 0 ∧ formH (L.hist v) = 1)) k
  | 0 => rfl
  | k + 1 => by
    rw [rnodesTo_succ, innN_app, rnodes_inn L k]
    simp only [tN]
    congr 1
    by_cases h : k = 0 ∨ formH (L.hist k) = 3
    · rw [if_pos h, if_neg]
      · rfl
      · simp only [decide_eq_true_eq]
        rintro ⟨a, b⟩
        rcases h with h | h
        · exact a h
        · omega
    · rw [if_neg h]
      simp only [innN, (rnode_num L k).2.2.2, Nat.add_zero, decide_eq_true_eq]
      have : k ≠ 0 := fun e => h (Or.inl e)
      simp [this]

theorem findN_mem (v : Int) : ∀ (l : List Int) (i : Nat), v ∈ l → 0 ≤ findN v l i
  | [], _, h => by simp at h
  | x :: r, i, h => by
    unfold findN
    split
    · omega
    · rename_i hx
      refine findN_mem v r (i + 1) ?_
      rcases List.mem_cons.1 h with e | e
      · exact absurd e.symm hx
      · exact e

theorem CRel.shaped {c : Conf} {L : Lay} {P : PLay} (h : CRel c L P) : ShapedL c.depth.toNat (rnodes L) := by
  have hcf := h.rel.confs
  have hl := h.rel.lenle
  have hN := h.rel.len
  have hN' : L.past.length = 2 * 2 ^ c.depth.toNat := by rw [hN, Nat.pow_succ]; omega
  have hroot := h.rel.root
  have hform : ∀ v, 1 ≤ v → v < L.past.length → formH (L.hist v) = 1 ∨ formH (L.hist v) = 2 ∨ formH (L.hist v) = 3 := fun v a b => (h.rel.nodes v a b).form
  have h1 : isV L 1 := ⟨by omega, hroot⟩
  have hm1 : rnode L 1 ∈ rnodes L := (rnodes_mem L _ _).2 ⟨1, by omega, h1, rfl⟩
  have hpos : 0 < (rnodes L).length := List.length_pos_of_mem hm1
  have hnum : ∀ v, v < L.past.length → isV L v → (v : Int) ∈ (rnodes L).map fun d => d.num := by
    intro v a b
    exact List.mem_map.2 ⟨rnode L v, (rnodes_mem L _ _).2 ⟨v, a, b, rfl⟩, (rnode_num L v).1⟩
  have hev : ∀ i, (hi : i < (rnodes L).length) → ∃ v, v < L.past.length ∧ isV L v ∧ (rnodes L)[i] = rnode L v := fun i hi => (rnodes_mem L _ _).1 (List.getElem_mem hi)
  have hrise := List.pairwise_iff_getElem.1 (rnodes_rise L L.past.length)
  refine ⟨by omega, hpos, ?_, fun hp => ?_, fun i hi => ?_, fun i hi => ?_, fun i hi hin => ?_, ?_⟩
  · have := rnodesTo_le L L.past.length
    unfold rnodes
    omega
  · obtain ⟨v, a, b, e⟩ := hev 0 hp
    obtain ⟨j, hj, ej⟩ := List.getElem_of_mem hm1
    rw [e, (rnode_num L v).1]
    have e1 : ((rnodes L)[j]).num = 1 := by rw [ej, (rnode_num L 1).1]; rfl
    have e0 : ((rnodes L)[0]).num = v := by rw [e, (rnode_num L v).1]
    by_cases ej0 : j = 0
    · subst ej0
      omega
    · have := hrise 0 j hp hj (by omega)
      have hv := b.1
      have e0' : ((rnodesTo L L.past.length)[0]).num = v := e0
      have e1' : ((rnodesTo L L.past.length)[j]).num = 1 := e1
      omega
  · obtain ⟨v, a, b, e⟩ := hev i hi
    obtain ⟨x1, x2, x3, x4⟩ := rnode_num L v
    exact ⟨v, by rw [e, x1], by have := b.1; omega, by omega, by rw [e, x2], by rw [e, x3]⟩
  · exact hrise i (i + 1) (show i < (rnodes L).length by omega) hi (by omega)
  · obtain ⟨v, a, b, e⟩ := hev i hi
    obtain ⟨x1, x2, x3, x4⟩ := rnode_num L v
    rw [e] at hin ⊢
    rw [x4] at hin
    have hf := of_decide_eq_true hin
    obtain ⟨k1, k2, k3⟩ := h.rel.kids v (by have := b.1; omega) a hf
    rw [x1]
    refine ⟨findN_mem _ _ _ ?_, findN_mem _ _ _ ?_⟩
    · have := hnum (2 * v) (by omega) ⟨by have := b.1; omega, k2⟩
      push_cast at this
      exact this
    · have := hnum (2 * v + 1) (by omega) ⟨by omega, k3⟩
      push_cast at this
      exact this
  · show 1 + 2 * innN (rnodesTo L L.past.length) = (rnodesTo L L.past.length).length
    rw [rnodes_len, rnodes_inn]
    have hp := tN_pair (fun v => decide (v ≠ 0 ∧ formH (L.hist v) ≠ 3)) (fun v => decide (v ≠ 0 ∧ formH (L.hist v) = 1)) (by simp) (by simp [hroot]) (by simp) (2 ^ c.depth.toNat) ?_ Nat.one_le_two_pow
    · rw [hN', hp]
      congr 2
      refine tN_ext _ _ _ (by omega) fun j a b => ?_
      simp only [decide_eq_false_iff_not]
      rintro ⟨j0, jf⟩
      have := (h.rel.kids j (by omega) (by omega) jf).1
      omega
    · intro k k1 k2
      have hkN : 2 * k + 1 < L.past.length := by omega
      have key : ∀ u, u / 2 = k → 2 ≤ u → u < L.past.length → (formH (L.hist k) = 1 → formH (L.hist u) ≠ 3) → decide (u ≠ 0 ∧ formH (L.hist u) ≠ 3) = decide (k ≠ 0 ∧ formH (L.hist k) = 1) := by
        intro u eu u2 uN hku
        refine decide_eq_decide.2 ⟨?_, ?_⟩
        · rintro ⟨_, b⟩
          have := h.ck.ci.par u u2 uN b
          rw [eu] at this
          exact ⟨by omega, this⟩
        · rintro ⟨_, b⟩
          exact ⟨by omega, hku b⟩
      exact ⟨key (2 * k) (by omega) (by omega) (by omega) fun f => (h.rel.kids k k1 (by omega) f).2.1, key (2 * k + 1) (by omega) (by omega) (by omega) fun f => (h.rel.kids k k1 (by omega) f).2.2⟩

end Go.Proofs.Ytjnmpejcegmkhaa
