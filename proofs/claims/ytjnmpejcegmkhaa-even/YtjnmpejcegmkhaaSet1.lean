/- Rounds of a hand (P15): what a step of a round does. No statement of the seat is proved here. -/
import Derived.Test.YtjnmpejcegmkhaaXOk
import Derived.Test.YtjnmpejcegmkhaaH8E
import Derived.Test.YtjnmpejcegmkhaaIns0
namespace Go.Proofs.Ytjnmpejcegmkhaa
open Go.RowKit

/-- Who is not Done, of the first k. -/
def livTo (ps : Prs) : Nat → List Nat
  | 0 => []
  | k + 1 => livTo ps k ++ (if h : k < ps.length then (if (ps[k]).2.phase = 20 then [] else [k]) else [])
theorem livTo_len (ps : Prs) : ∀ k, (livTo ps k).length ≤ k
  | 0 => Nat.le_refl _
  | k + 1 => by
    have := livTo_len ps k
    simp only [livTo, List.length_append]
    split
    · split <;> simp <;> omega
    · simp; omega
theorem livTo_lt (ps : Prs) : ∀ k x, x ∈ livTo ps k → x < k ∧ x < ps.length
  | 0, x, h => by simp [livTo] at h
  | k + 1, x, h => by
    simp only [livTo, List.mem_append] at h
    rcases h with h | h
    · have := livTo_lt ps k x h; omega
    · split at h
      · split at h
        · simp at h
        · simp only [List.mem_cons, List.not_mem_nil, or_false] at h; omega
      · simp at h
theorem livTo_no (ps : Prs) : ∀ k i, i < k → (hi : i < ps.length) → i ∉ livTo ps k → (ps[i]).2.phase = 20
  | 0, i, h, _, _ => by omega
  | k + 1, i, h, hi, hn => by
    simp only [livTo, List.mem_append, not_or] at hn
    by_cases e : i = k
    · subst e
      have := hn.2
      rw [dif_pos hi] at this
      by_cases e20 : (ps[i]).2.phase = 20
      · exact e20
      · rw [if_neg e20] at this
        simp at this
    · exact livTo_no ps k i (by omega) hi hn.1

/-- In the midst of a round. -/
def SetSt (W : World) (B hb : Nat) (c : Conf) (n : Nat) (liv : List Nat) (l0 : List PP) (dn : List Nat) : Prop :=
  ∃ S P, KSt W B hb c S P ∧ XOk c S.L ∧ S.L.procs.length = n ∧ RI c l0 (toPPs S.L.procs) dn ∧ ∀ i, (hi : i < S.L.procs.length) → i ∉ liv → (S.L.procs[i]).2.phase = 20
/-- Between two rounds. -/
def SetR (W : World) (B hb : Nat) (c : Conf) (n : Nat) (liv : List Nat) (k : Nat) : Prop :=
  ∃ S P, KSt W B hb c S P ∧ XOk c S.L ∧ S.L.procs.length = n ∧ (∀ i, (hi : i < S.L.procs.length) → arrived (toPP (S.L.procs[i]).2) ∨ phi c (toPPs S.L.procs) (toPP (S.L.procs[i]).2) + k ≤ calmR c) ∧ ∀ i, (hi : i < S.L.procs.length) → i ∉ liv → (S.L.procs[i]).2.phase = 20

theorem SetSt.below {W W' : World} {B hb : Nat} {c : Conf} {n : Nat} {liv : List Nat} {l0 : List PP} {dn : List Nat} (h : SetSt W B hb c n liv l0 dn) (hb' : Below W.heap.size W W') : SetSt W' B hb c n liv l0 dn := by
  obtain ⟨S, P, a, r⟩ := h
  exact ⟨S, P, a.below hb', r⟩
theorem SetR.below {W W' : World} {B hb : Nat} {c : Conf} {n : Nat} {liv : List Nat} {k : Nat} (h : SetR W B hb c n liv k) (hb' : Below W.heap.size W W') : SetR W' B hb c n liv k := by
  obtain ⟨S, P, a, r⟩ := h
  exact ⟨S, P, a.below hb', r⟩

theorem SetR.round {W : World} {B hb : Nat} {c : Conf} {n : Nat} {liv : List Nat} {k : Nat} (h : SetR W B hb c n liv k) : ∃ l0, l0.length = n ∧ (∀ i, (hi : i < l0.length) → arrived l0[i] ∨ phi c l0 l0[i] + k ≤ calmR c) ∧ SetSt W B hb c n liv l0 [] := by
  obtain ⟨S, P, a, b, d, e, f⟩ := h
  refine ⟨toPPs S.L.procs, by rw [toPPs_len]; exact d, fun i hi => ?_, S, P, a, b, d, RI.start c _, f⟩
  have hi' : i < S.L.procs.length := by rw [toPPs_len] at hi; exact hi
  rw [toPPs_at _ _ hi' hi]
  exact e i hi'

theorem SetSt.done {W : World} {B hb : Nat} {c : Conf} {n : Nat} {liv : List Nat} {l0 : List PP} {dn : List Nat} {k : Nat} (h : SetSt W B hb c n liv l0 dn) (h0 : ∀ i, (hi : i < l0.length) → arrived l0[i] ∨ phi c l0 l0[i] + k ≤ calmR c) (hall : ∀ x, x ∈ liv → x ∈ dn) : SetR W B hb c n liv (k + 1) := by
  obtain ⟨S, P, a, b, d, e, f⟩ := h
  refine ⟨S, P, a, b, d, fun i hi => ?_, f⟩
  have hi' : i < (toPPs S.L.procs).length := by rw [toPPs_len]; exact hi
  have hl := e.len
  have h1 := e.round (fun j hj => ?_) i hi' (by omega)
  · rw [toPPs_at _ _ hi hi'] at h1
    rcases h1 with x | x
    · exact Or.inl x
    · rcases h0 i (by omega) with y | y
      · have := e.keep i hi' (by omega) y
        rw [toPPs_at _ _ hi hi'] at this
        exact Or.inl this
      · exact Or.inr (by push_cast; omega)
  · have hj' : j < S.L.procs.length := by rw [toPPs_len] at hj; exact hj
    by_cases hm : j ∈ liv
    · exact Or.inl (hall j hm)
    · right
      rw [toPPs_at _ _ hj' hj]
      exact f j hj' hm

theorem SetSt.at {W : World} {B hb : Nat} {c : Conf} {n : Nat} {liv : List Nat} {l0 : List PP} {dn : List Nat} (h : SetSt W B hb c n liv l0 dn) (i : Nat) (hi : i < n) :
    ∃ ph nd vl : Int, (∀ W', Below W.heap.size W W' → Calls Try.prog 44 #[.pointer (some ⟨hb, 0, none⟩), I i] W' fun e w' => e = .returned (.agg #[I ph, I nd, I vl]) ∧ Below W'.heap.size W' w') ∧
      (ph = 20 → SetSt W B hb c n liv l0 (i :: dn)) ∧ (ph ≠ 20 → ∀ W', Below W.heap.size W W' → ∀ draw : Int, Calls Try.prog 43 #[.pointer (some ⟨hb, 0, none⟩), I i, I draw] W' fun e w' => e = .returned (.bool true) ∧ SetSt w' B hb c n liv l0 (i :: dn) ∧ ChgT B KS W' w') := by
  obtain ⟨S, P, a, b, d, e, f⟩ := h
  subst d
  refine ⟨(S.L.procs[i]).2.phase, (S.L.procs[i]).2.node, (S.L.procs[i]).2.val, fun W' hw => a.at hw i hi, fun h20 => ?_, fun h20 W' hw draw => ?_⟩
  · exact ⟨S, P, a, b, rfl, e.skip i (by rw [toPPs_len]; exact hi) (by rw [toPPs_at _ _ hi]; exact h20), f⟩
  · refine (hstep2_c (a.below hw) (i : Int) draw).mono ?_
    rintro x w' ⟨rfl, ⟨P', hk⟩, hc⟩
    refine ⟨rfl, ?_, hc⟩
    have eg : gstep S i draw = ⟨lstep S.L i draw, S.ops, S.went.set i true⟩ := by
      unfold gstep
      rw [if_pos ⟨by omega, by omega, by rw [Int.toNat_natCast, phaseAt_eq S.L i hi]; exact h20⟩, Int.toNat_natCast]
    rw [eg] at hk
    obtain ⟨v, q', hs, hp, _, _⟩ := a.rel.sq b.pat hi h20 draw
    have hlen : (lstep S.L i draw).procs.length = S.L.procs.length := by
      have := congrArg List.length hp
      simpa [toPPs] using this
    refine ⟨_, P', hk, XOk.step a.rel b hi h20 draw, hlen, ?_, fun j hj hnm => ?_⟩
    · show RI c l0 (toPPs (lstep S.L i draw).procs) (i :: dn)
      rw [hp]
      exact e.step hs
    · have hj' : j < (lstep S.L i draw).procs.length := hj
      have hj0 : j < S.L.procs.length := by omega
      have h20j := f j hj0 hnm
      have hne : j ≠ i := by
        intro e
        subst e
        exact h20 h20j
      have e1 : (toPPs (lstep S.L i draw).procs)[j]? = (toPPs S.L.procs)[j]? := by
        rw [hp, List.getElem?_set_ne (Ne.symm hne)]
      have e2 : (toPPs (lstep S.L i draw).procs)[j]? = some (toPP ((lstep S.L i draw).procs[j]).2) := by simp [toPPs, hj']
      have e3 : (toPPs S.L.procs)[j]? = some (toPP (S.L.procs[j]).2) := by simp [toPPs, hj0]
      rw [e2, e3] at e1
      have := pp_told (Option.some.inj e1)
      show ((lstep S.L i draw).procs[j]).2.phase = 20
      rw [this.2.2.2.1]
      exact h20j

theorem SetSt.start {W : World} {B hb : Nat} {c : Conf} {S : Gh} {P : PLay} (h : KSt W B hb c S P) (pk : XOk c S.L) : SetR W B hb c S.L.procs.length (livTo S.L.procs S.L.procs.length) 0 := by
  refine ⟨S, P, h, pk, rfl, fun i hi => Or.inr ?_, fun i hi hn => livTo_no S.L.procs _ i hi hi hn⟩
  have := (h.rel.phi pk.pat hi).2
  simpa using this

theorem SetR.all {W : World} {B hb : Nat} {c : Conf} {n : Nat} {liv : List Nat} {k : Nat} (h : SetR W B hb c n liv k) (hk : calmR c ≤ k) : ∃ S P, KSt W B hb c S P ∧ XOk c S.L ∧ S.L.procs.length = n ∧ ∀ i, (hi : i < S.L.procs.length) → arrived (toPP (S.L.procs[i]).2) := by
  obtain ⟨S, P, a, b, d, e, f⟩ := h
  refine ⟨S, P, a, b, d, fun i hi => ?_⟩
  rcases e i hi with x | x
  · exact x
  · by_cases na : arrived (toPP (S.L.procs[i]).2)
    · exact na
    · have := (a.rel.phi b.pat hi).1 na
      exfalso
      omega
theorem SetR.none {W : World} {B hb : Nat} {c : Conf} {n : Nat} {k : Nat} (h : SetR W B hb c n [] k) : ∃ S P, KSt W B hb c S P ∧ XOk c S.L ∧ S.L.procs.length = n ∧ ∀ i, (hi : i < S.L.procs.length) → arrived (toPP (S.L.procs[i]).2) := by
  obtain ⟨S, P, a, b, d, e, f⟩ := h
  exact ⟨S, P, a, b, d, fun i hi => Or.inr (Or.inr (Or.inr (f i hi (by simp))))⟩

/-- Round the list from f on, either way: each is met. -/
theorem turn_up (m f t : Nat) (hf : f < m) (ht : t < m) : ∃ i, i < m ∧ (f + i) % m = t := by
  by_cases h : f ≤ t
  · exact ⟨t - f, by omega, by rw [show f + (t - f) = t by omega]; exact Nat.mod_eq_of_lt ht⟩
  · refine ⟨t + m - f, by omega, ?_⟩
    rw [show f + (t + m - f) = t + m by omega, Nat.add_mod_right]
    exact Nat.mod_eq_of_lt ht
theorem turn_down (m f t : Nat) (hf : f < m) (ht : t < m) : ∃ i, i < m ∧ (f + m - i) % m = t := by
  by_cases h : t ≤ f
  · refine ⟨f - t, by omega, ?_⟩
    rw [show f + m - (f - t) = t + m by omega, Nat.add_mod_right]
    exact Nat.mod_eq_of_lt ht
  · refine ⟨f + m - t, by omega, ?_⟩
    rw [show f + m - (f + m - t) = t by omega]
    exact Nat.mod_eq_of_lt ht

theorem kcalm_c (c : Conf) (hm : mayC c = true) (w : World) : Calls Try.prog 53 #[confV c] w fun e w' => e = .returned (I (calmR c)) ∧ Below w.heap.size w w' := by
  have hc : 0 ≤ c.depth ∧ c.depth ≤ 4 ∧ 0 ≤ c.spin ∧ c.spin ≤ 8 ∧ 0 ≤ c.drain ∧ c.drain ≤ 16 ∧ 1 ≤ c.procs ∧ c.procs ≤ 16 := by simp [mayC] at hm; omega
  have HR : Hid (calmR c = (c.procs + 1) * (c.drain + 8) + (c.depth + 1) * (c.spin + 12)) := rfl
  unfold confV
  generalize calmR c = R at *
  obtain ⟨kd, dp, st, sl, wd, sp, dr, pr⟩ := c
  simp only at *
  have b1 : (pr + 1) * (dr + 8) ≤ 17 * 24 := Int.mul_le_mul (by omega) (by omega) (by omega) (by omega)
  have b2 : 0 ≤ (pr + 1) * (dr + 8) := Int.mul_nonneg (by omega) (by omega)
  have b3 : (dp + 1) * (sp + 12) ≤ 5 * 20 := Int.mul_le_mul (by omega) (by omega) (by omega) (by omega)
  have b4 : 0 ≤ (dp + 1) * (sp + 12) := Int.mul_nonneg (by omega) (by omega)
  have hb : Below w.heap.size w (w.alloc (.cells #[I kd, I dp, I st, I sl, I wd, I sp, I dr, I pr] 23)) := (Below.refl _ _).alloc (Nat.le_refl _) _
  clear hm
  go_enter Try.func53, Try.ntmps53
  go_wp2_with fail
  go_ret
  exact ⟨by rw [HR.out]; rfl, hb⟩

end Go.Proofs.Ytjnmpejcegmkhaa
