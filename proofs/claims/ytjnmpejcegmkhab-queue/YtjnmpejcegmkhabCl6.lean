/- A pool in which nobody can go on: just the excess is left (P15, the document's tree alone). No statement of the seat is proved here. Rounds of a pool in which everybody has arrived (P15): who can go on goes on (the document's tree alone). No statement of the seat is proved here. Rounds of a pool (P15): how long it takes till nobody can go on (the document's tree alone). No statement of the seat is proved here. A step of a hand, and what it may change. No statement of the seat is proved here. Rounds of a hand (P15): what a step of a round does. No statement of the seat is proved here. The numbers that a counter has handed out (P13), of the document's tree alone. No statement of the seat is proved here. Whom a waiting process of a counter was met by (the document's tree alone). No statement of the seat is proved here. When an Inc of a counter ends (the document's tree alone). No statement of the seat is proved here. The numbers that a counter has handed out, through Folds and Unfolds (the document's tree alone). No statement of the seat is proved here. No number of a counter is too great (the document's tree alone). No statement of the seat is proved here. What holds of a counter's tree through every play of a hand (the document's tree alone). No statement of the seat is proved here. How long a process may still be on its way (P15): rounds of a counter, to the end. No statement of the seat is proved here. Rounds of a counter (P13, P15): what a step of a round does. No statement of the seat is proved here. What holds of a tree through every play, counter or pool, and its rounds (the document's tree alone). No statement of the seat is proved here. P15's rounds, of a counter or a pool: between two of them, in the midst of one, behind the last (the document's tree alone). No statement of the seat is proved here. -/
import Derived.Test.YtjnmpejcegmkhabCl1
import Derived.Test.YtjnmpejcegmkhabNew0
import Derived.Test.YtjnmpejcegmkhabVal2
namespace Go.Proofs.Ytjnmpejcegmkhab
open Go.RowKit

theorem rank_lt : ∀ u : Fin 32, 1 ≤ u.1 → rank u.1 < 2 ^ Nat.log2 u.1 := by decide +kernel

theorem room_mul {c : Conf} {u : Nat} (h : Nat.log2 u ≤ c.depth.toNat) : roomOf c u * 2 ^ Nat.log2 u = c.slots * 2 ^ c.depth.toNat := by
  unfold roomOf
  rw [Int.mul_assoc, ← Int.pow_add]
  congr 2
  omega

theorem sumP_neg (f : Pr → Int) : ∀ ps : Ps, (∀ i, (hi : i < ps.length) → f (ps[i]).2 ≤ 0) → (∀ i, (hi : i < ps.length) → f (ps[i]).2 ≤ -1 → sumP f ps ≤ -1) ∧ sumP f ps ≤ 0
  | [], _ => ⟨fun i hi => absurd hi (Nat.not_lt_zero _), Int.le_refl _⟩
  | y :: r, h => by
    have h0 := h 0 (by simp)
    simp only [List.getElem_cons_zero] at h0
    obtain ⟨a, b⟩ := sumP_neg f r fun i hi => by
      have := h (i + 1) (by simpa using hi)
      simpa using this
    refine ⟨fun i hi x => ?_, by simp only [sumP]; omega⟩
    simp only [sumP]
    match i, hi, x with
    | 0, _, x => simp only [List.getElem_cons_zero] at x; omega
    | i + 1, hi, x =>
      simp only [List.getElem_cons_succ] at x
      have := a i (by simpa using hi) x
      omega
theorem sumP_pos (f : Pr → Int) : ∀ ps : Ps, (∀ i, (hi : i < ps.length) → 0 ≤ f (ps[i]).2) → (∀ i, (hi : i < ps.length) → 1 ≤ f (ps[i]).2 → 1 ≤ sumP f ps) ∧ 0 ≤ sumP f ps
  | [], _ => ⟨fun i hi => absurd hi (Nat.not_lt_zero _), Int.le_refl _⟩
  | y :: r, h => by
    have h0 := h 0 (by simp)
    simp only [List.getElem_cons_zero] at h0
    obtain ⟨a, b⟩ := sumP_pos f r fun i hi => by
      have := h (i + 1) (by simpa using hi)
      simpa using this
    refine ⟨fun i hi x => ?_, by simp only [sumP]; omega⟩
    simp only [sumP]
    match i, hi, x with
    | 0, _, x => simp only [List.getElem_cons_zero] at x; omega
    | i + 1, hi, x =>
      simp only [List.getElem_cons_succ] at x
      have := a i (by simpa using hi) x
      omega
theorem sumP_some (f : Pr → Int) : ∀ ps : Ps, 0 < sumP f ps → ∃ i, ∃ hi : i < ps.length, 0 < f (ps[i]).2
  | [], h => absurd h (by simp [sumP])
  | y :: r, h => by
    simp only [sumP] at h
    by_cases e : 0 < f y.2
    · exact ⟨0, by simp, e⟩
    · obtain ⟨i, hi, x⟩ := sumP_some f r (by omega)
      exact ⟨i + 1, by simpa using hi, by simpa using x⟩
theorem sumN_le (f g : Nat → Int) : ∀ n, (∀ k, k < n → f k ≤ g k) → sumN f n ≤ sumN g n
  | 0, _ => Int.le_refl _
  | n + 1, h => by
    have := sumN_le f g n fun k hk => h k (by omega)
    have := h n (by omega)
    simp only [sumN]
    omega

def is13 (p : Pr) : Int := if p.phase = 13 then 1 else 0
def is14 (p : Pr) : Int := if p.phase = 14 then 1 else 0

section
variable {c : Conf} {L : Lay} {P : PLay}

theorem fin_phase (hfin : FinOk c L) (i : Nat) (hi : i < L.procs.length) : (L.procs[i]).2.phase = 20 ∨ (L.procs[i]).2.phase = 13 ∨ (L.procs[i]).2.phase = 14 := by
  have hj : i < (toPPs L.procs).length := by rw [toPPs_len]; exact hi
  have e : (toPPs L.procs)[i] = toPP (L.procs[i]).2 := toPPs_at _ _ hi hj
  have := hfin i hj
  rw [e] at this
  rcases this with x | x | x
  · exact Or.inl x
  · exact Or.inr (Or.inl x.1)
  · exact Or.inr (Or.inr x.1)

theorem at_leaf (h : CRel c L P) {i : Nat} (hi : i < L.procs.length) (hp : (L.procs[i]).2.phase = 13 ∨ (L.procs[i]).2.phase = 14) : ∃ u : Nat, (L.procs[i]).2.node = (u : Int) ∧ 1 ≤ u ∧ u < L.past.length ∧ formH (L.hist u) = 2 := by
  have q := h.rel.qs i hi
  obtain ⟨u, a, b, d, _⟩ := q.live (by omega)
  have f := q.leaf (by omega) (by omega)
  rw [a, Int.toNat_natCast] at f
  exact ⟨u, a, b, d, f⟩

/-- What has gone in lies there, or waits. -/
theorem fin_sum (h : CRel c L P) (hc : c.kind = 1) (x : XOk c L) (hfin : FinOk c L) : sumN (fun w => lenH (L.hist w)) L.past.length + sumP stA L.procs = sumP (fun p => sgn p.kind) L.procs := by
  have ht := x.tot
  unfold TotOk at ht
  have hz : sumP (tokP L.procs) L.procs = 0 := sumP_zero _ _ fun i hi => by
    have := fin_phase hfin i hi
    rw [tokP_lo (by omega), if_neg (by omega)]
  rw [hz] at ht
  rw [← ht, ← st_swap L L.procs fun i hi hp => by
    obtain ⟨u, a, _, b, d⟩ := at_leaf h hi hp
    exact ⟨u, a, b, d⟩]
  rw [← sumN_add]
  unfold balS
  rw [Int.add_zero]
  refine sumN_congr _ _ _ fun w hw => ?_
  by_cases f : formH (L.hist w) = 2
  · have h1 : 1 ≤ w := by
      have := h.rel.hist0
      by_cases e : w = 0
      · subst e; omega
      · omega
    have := h.ck.ci.lies hc w h1 hw f
    unfold lenH
    rw [if_pos f, if_pos f]
    exact this
  · unfold lenH balH
    rw [if_neg f, if_neg f, if_neg f]
    rfl

theorem fin_still (hfin : FinOk c L) : Still L := by
  intro i hi
  left
  have := fin_phase hfin i hi
  unfold arrived
  have e : (toPP (L.procs[i]).2).phase = (L.procs[i]).2.phase := rfl
  rw [e]
  omega

/-- What a leaf has, and what that says of all. -/
theorem fin_leaf (h : CRel c L P) (hc : c.kind = 1) (x : XOk c L) (ht : TkOk L) (hr : RmOk c L) (hfin : FinOk c L) {u : Nat} (h1 : 1 ≤ u) (hu : u < L.past.length) (hf : formH (L.hist u) = 2) :
    (balH (L.hist u) - 1) * 2 ^ Nat.log2 u < sumP (fun p => sgn p.kind) L.procs - rank u ∧ sumP (fun p => sgn p.kind) L.procs - rank u ≤ balH (L.hist u) * 2 ^ Nat.log2 u ∧ rank u < 2 ^ Nat.log2 u ∧ roomOf c u * 2 ^ Nat.log2 u = c.slots * 2 ^ c.depth.toNat ∧ Nat.log2 u ≤ 4 ∧ 1 ≤ roomOf c u ∧
    lenH (L.hist u) + sumP (stP u) L.procs = balH (L.hist u) ∧
    (((∃ t, holdK 14 (toPPs L.procs) u t) ∧ lenH (L.hist u) = 0 ∧ (∀ t, ¬ holdK 13 (toPPs L.procs) u t) ∧ sumP (stP u) L.procs ≤ -1) ∨
     ((∀ t, ¬ holdK 14 (toPPs L.procs) u t) ∧ 0 ≤ balH (L.hist u) ∧ lenH (L.hist u) = min (balH (L.hist u)) (roomOf c u) ∧ 0 ≤ sumP (stP u) L.procs ∧ ((∃ t, holdK 13 (toPPs L.procs) u t) → 1 ≤ sumP (stP u) L.procs))) := by
  have hN := h.rel.lenle
  have hsh := still_share h (fin_still hfin) u h1 hu (by omega)
  have htot : balS L = sumP (fun p => sgn p.kind) L.procs := by
    have ht := x.tot
    unfold TotOk at ht
    have hz : sumP (tokP L.procs) L.procs = 0 := sumP_zero _ _ fun i hi => by
      have := fin_phase hfin i hi
      rw [tokP_lo (by omega), if_neg (by omega)]
    rw [hz] at ht
    omega
  rw [sub_leaf h h1 hu hf, sub_all h, htot] at hsh
  have hl4 := log2_32 ⟨u, by omega⟩
  simp only at hl4
  have hrk := rank_lt ⟨u, by omega⟩ h1
  simp only at hrk
  have hld : Nat.log2 u ≤ c.depth.toNat := by
    have := (Nat.log2_lt (show u ≠ 0 by omega)).2 (by rw [← h.rel.len]; exact hu)
    omega
  have hb : balH (L.hist u) = putsH (L.hist u) - manyH 7 (-1) (L.hist u) := by unfold balH; rw [if_pos hf]
  have hlen : lenH (L.hist u) = ((itemsH (L.hist u)).length : Int) := by unfold lenH; rw [if_pos hf]
  have hli := h.ck.ci.lies hc u h1 hu hf
  have toK : ∀ k : Int, ∀ i, (hi : i < L.procs.length) → (L.procs[i]).2.phase = k → (L.procs[i]).2.node = (u : Int) → (k = 13 ∨ k = 14) → ∃ t, holdK k (toPPs L.procs) u t := by
    intro k i hi a b _
    have t0 := (h.rel.qs i hi).tick.1
    refine ⟨(L.procs[i]).2.ticket.toNat, i, by rw [toPPs_len]; exact hi, ?_⟩
    rw [toPPs_at _ _ hi]
    exact ⟨a, b, by show (L.procs[i]).2.ticket = _; omega⟩
  have fromK : ∀ k t, holdK k (toPPs L.procs) u t → ∃ i, ∃ hi : i < L.procs.length, (L.procs[i]).2.phase = k ∧ (L.procs[i]).2.node = (u : Int) := by
    rintro k t ⟨i, hi, a, b, _⟩
    have hi0 : i < L.procs.length := by rw [toPPs_len] at hi; exact hi
    rw [toPPs_at _ _ hi0] at a b
    exact ⟨i, hi0, a, b⟩
  refine ⟨hsh.1, hsh.2, hrk, room_mul hld, hl4, room_pos h.rel.may u, by rw [hlen]; exact hli, ?_⟩
  by_cases hg : ∃ t, holdK 14 (toPPs L.procs) u t
  · left
    obtain ⟨t, ht14⟩ := hg
    obtain ⟨a, b⟩ := fin_get h ht hfin h1 hu hf ht14
    refine ⟨⟨t, ht14⟩, by rw [hlen, a]; rfl, b, ?_⟩
    obtain ⟨j, hj, j1, j2⟩ := fromK 14 t ht14
    have hneg := sumP_neg (stP u) L.procs fun i hi => by
      unfold stP
      by_cases en : (L.procs[i]).2.node = (u : Int)
      · rw [if_pos en]
        by_cases e13 : (L.procs[i]).2.phase = 13
        · obtain ⟨t', z⟩ := toK 13 i hi e13 en (Or.inl rfl)
          exact absurd z (b t')
        · rw [if_neg e13]
          split <;> omega
      · rw [if_neg en]
        omega
    refine hneg.1 j hj ?_
    unfold stP
    rw [if_pos j2, if_neg (by omega), if_pos j1]
    omega
  · right
    have hg' : ∀ t, ¬ holdK 14 (toPPs L.procs) u t := fun t z => hg ⟨t, z⟩
    obtain ⟨a, b⟩ := fin_no h hc ht hr hfin h1 hu hf hg'
    have hpos := sumP_pos (stP u) L.procs fun i hi => by
      unfold stP
      by_cases en : (L.procs[i]).2.node = (u : Int)
      · rw [if_pos en]
        by_cases e14 : (L.procs[i]).2.phase = 14
        · exact absurd (toK 14 i hi e14 en (Or.inr rfl)) hg
        · rw [if_neg e14]
          split <;> omega
      · rw [if_neg en]
        omega
    refine ⟨hg', by omega, by rw [hlen, b, hb], hpos.2, fun ⟨t, z⟩ => ?_⟩
    obtain ⟨j, hj, j1, j2⟩ := fromK 13 t z
    refine hpos.1 j hj ?_
    unfold stP
    rw [if_pos j2, if_pos j1]
    omega

theorem share_lin {d : Nat} (hd : d ≤ 4) {b r N R : Int} {rk : Nat} (h1 : (b - 1) * 2 ^ d < N - rk) (h2 : N - rk ≤ b * 2 ^ d) (h3 : rk < 2 ^ d) (h4 : r * 2 ^ d = R) : (r + 1 ≤ b → R < N) ∧ (R < N → r ≤ b) ∧ (b ≤ -1 → N < 0) ∧ (N < 0 → b ≤ 0) := by
  have : d = 0 ∨ d = 1 ∨ d = 2 ∨ d = 3 ∨ d = 4 := by omega
  rcases this with rfl | rfl | rfl | rfl | rfl <;> simp at h1 h2 h3 h4 <;> omega

theorem toK {u : Nat} (h : CRel c L P) (k : Int) {i : Nat} (hi : i < L.procs.length) (a : (L.procs[i]).2.phase = k) (b : (L.procs[i]).2.node = (u : Int)) : ∃ t, holdK k (toPPs L.procs) u t := by
  have t0 := (h.rel.qs i hi).tick.1
  refine ⟨(L.procs[i]).2.ticket.toNat, i, by rw [toPPs_len]; exact hi, ?_⟩
  rw [toPPs_at _ _ hi]
  exact ⟨a, b, by show (L.procs[i]).2.ticket = _; omega⟩

theorem is_some {k : Int} {f : Pr → Int} (hf : ∀ p, 0 < f p → p.phase = k) (hk : k = 13 ∨ k = 14) (h : CRel c L P) (hs : 0 < sumP f L.procs) : ∃ u : Nat, 1 ≤ u ∧ u < L.past.length ∧ formH (L.hist u) = 2 ∧ ∃ t, holdK k (toPPs L.procs) u t := by
  obtain ⟨i, hi, x⟩ := sumP_some f L.procs hs
  have hp := hf _ x
  obtain ⟨u, a, b, d, e⟩ := at_leaf h hi (by omega)
  exact ⟨u, b, d, e, toK h k hi hp a⟩

/-- Just the excess waits; nothing lies while a Get waits. -/
theorem fin_excess (h : CRel c L P) (hc : c.kind = 1) (x : XOk c L) (ht : TkOk L) (hr : RmOk c L) (hfin : FinOk c L) :
    sumP is13 L.procs = (if c.slots * 2 ^ c.depth.toNat < sumP (fun p => sgn p.kind) L.procs then sumP (fun p => sgn p.kind) L.procs - c.slots * 2 ^ c.depth.toNat else 0) ∧
    sumP is14 L.procs = (if sumP (fun p => sgn p.kind) L.procs < 0 then - sumP (fun p => sgn p.kind) L.procs else 0) ∧
    (0 < sumP is14 L.procs → sumN (fun w => lenH (L.hist w)) L.past.length = 0) := by
  have hA := fin_sum h hc x hfin
  have hcap := cap_all h
  have hst : sumP stA L.procs = sumP is13 L.procs - sumP is14 L.procs := by
    rw [← sumP_mns]
    refine sumP_congr _ _ _ fun i hi => ?_
    unfold stA is13 is14
    split
    · rw [if_neg (by omega)]; rfl
    · split <;> rfl
  have p13 := (sumP_pos is13 L.procs fun i hi => by unfold is13; split <;> omega).2
  have p14 := (sumP_pos is14 L.procs fun i hi => by unfold is14; split <;> omega).2
  have l0 : ∀ w, 0 ≤ lenH (L.hist w) := by
    intro w
    unfold lenH
    split <;> omega
  have leafy : ∀ w, w < L.past.length → formH (L.hist w) = 2 → 1 ≤ w := by
    intro w hw f
    by_cases e : w = 0
    · subst e
      have := h.rel.hist0
      omega
    · omega
  have e13 : ∀ p : Pr, 0 < is13 p → p.phase = 13 := by
    intro p z
    unfold is13 at z
    split at z
    · assumption
    · omega
  have e14 : ∀ p : Pr, 0 < is14 p → p.phase = 14 := by
    intro p z
    unfold is14 at z
    split at z
    · assumption
    · omega
  rw [hst] at hA
  generalize hNN : sumP (fun p => sgn p.kind) L.procs = N at *
  generalize hRR : c.slots * 2 ^ c.depth.toNat = R at *
  have leaf : ∀ u, 1 ≤ u → u < L.past.length → formH (L.hist u) = 2 → _ := fun u a b d => fin_leaf h hc x ht hr hfin a b d
  rw [hNN, hRR] at leaf
  have hR0 : 1 ≤ R := by
    have hN := h.rel.lenle
    have hm := h.rel.may
    have := room_pos hm 1
    have e : roomOf c 1 = R := by
      rw [← hRR]
      unfold roomOf
      have : Nat.log2 1 = 0 := by decide
      rw [this]
      simp
    omega
  by_cases s13 : 0 < sumP is13 L.procs
  · obtain ⟨u, u1, u2, u3, u4⟩ := is_some e13 (Or.inl rfl) h s13
    obtain ⟨a1, a2, a3, a4, a5, a6, a7, a8⟩ := leaf u u1 u2 u3
    obtain ⟨z1, _, _, _⟩ := share_lin a5 a1 a2 a3 a4
    have hbig : R < N := by
      rcases a8 with ⟨_, _, y, _⟩ | ⟨_, _, y1, y2, y3⟩
      · obtain ⟨t, z⟩ := u4
        exact absurd z (y t)
      · have := y3 u4
        exact z1 (by omega)
    have all : ∀ w, w < L.past.length → lenH (L.hist w) = capH c L w := by
      intro w hw
      by_cases f : formH (L.hist w) = 2
      · obtain ⟨b1, b2, b3, b4, b5, b6, b7, b8⟩ := leaf w (leafy w hw f) hw f
        obtain ⟨_, y2, y3, _⟩ := share_lin b5 b1 b2 b3 b4
        have hge := y2 hbig
        unfold capH
        rw [if_pos f]
        rcases b8 with ⟨_, v1, _, v2⟩ | ⟨_, _, v1, _, _⟩
        · omega
        · omega
      · unfold capH lenH
        rw [if_neg f, if_neg f]
    have no14 : ¬ 0 < sumP is14 L.procs := by
      intro z
      obtain ⟨w, w1, w2, w3, w4⟩ := is_some e14 (Or.inr rfl) h z
      obtain ⟨b1, b2, b3, b4, b5, b6, b7, b8⟩ := leaf w w1 w2 w3
      obtain ⟨_, y2, y3, _⟩ := share_lin b5 b1 b2 b3 b4
      have hge := y2 hbig
      rcases b8 with ⟨_, v1, _, v2⟩ | ⟨v, _⟩
      · omega
      · obtain ⟨t, z⟩ := w4
        exact v t z
    have hs : sumN (fun w => lenH (L.hist w)) L.past.length = R := by
      rw [← hcap]
      exact sumN_congr _ _ _ fun w hw => all w hw
    rw [hs] at hA
    rw [if_pos hbig, if_neg (by omega)]
    exact ⟨by omega, by omega, fun z => absurd z no14⟩
  · by_cases s14 : 0 < sumP is14 L.procs
    · obtain ⟨u, u1, u2, u3, u4⟩ := is_some e14 (Or.inr rfl) h s14
      obtain ⟨a1, a2, a3, a4, a5, a6, a7, a8⟩ := leaf u u1 u2 u3
      obtain ⟨_, _, z3, _⟩ := share_lin a5 a1 a2 a3 a4
      have hneg : N < 0 := by
        rcases a8 with ⟨_, y1, _, y2⟩ | ⟨y, _⟩
        · exact z3 (by omega)
        · obtain ⟨t, z⟩ := u4
          exact absurd z (y t)
      have all : ∀ w, w < L.past.length → lenH (L.hist w) = 0 := by
        intro w hw
        by_cases f : formH (L.hist w) = 2
        · obtain ⟨b1, b2, b3, b4, b5, b6, b7, b8⟩ := leaf w (leafy w hw f) hw f
          obtain ⟨_, _, _, y4⟩ := share_lin b5 b1 b2 b3 b4
          have hle := y4 hneg
          rcases b8 with ⟨_, v1, _, _⟩ | ⟨_, v0, v1, _, _⟩
          · exact v1
          · omega
        · unfold lenH
          rw [if_neg f]
      have hs : sumN (fun w => lenH (L.hist w)) L.past.length = 0 := sumN_zero _ _ fun w hw => all w hw
      rw [hs] at hA
      rw [if_neg (by omega), if_pos hneg]
      exact ⟨by omega, by omega, fun _ => hs⟩
    · have hge : 0 ≤ sumN (fun w => lenH (L.hist w)) L.past.length := by
        have := sumN_le (fun _ => 0) (fun w => lenH (L.hist w)) L.past.length fun w _ => l0 w
        rw [sumN_zero (fun _ => 0) _ fun _ _ => rfl] at this
        exact this
      have hle : sumN (fun w => lenH (L.hist w)) L.past.length ≤ R := by
        rw [← hcap]
        refine sumN_le _ _ _ fun w hw => ?_
        by_cases f : formH (L.hist w) = 2
        · obtain ⟨b1, b2, b3, b4, b5, b6, b7, b8⟩ := leaf w (leafy w hw f) hw f
          unfold capH
          rw [if_pos f]
          rcases b8 with ⟨_, v1, _, _⟩ | ⟨_, _, v1, _, _⟩
          · omega
          · omega
        · unfold capH lenH
          rw [if_neg f, if_neg f]
          omega
      rw [if_neg (by omega), if_neg (by omega)]
      exact ⟨by omega, by omega, fun z => absurd z s14⟩
end

end Go.Proofs.Ytjnmpejcegmkhab

namespace Go.Proofs.Ytjnmpejcegmkhab
open Go.RowKit

section
variable {c : Conf} {L : Lay} {P : PLay} {i v : Nat} {p : Pr} {n : PN}

theorem Here.arrs (h : Here c L P i v p n) (draw : Int) (ha : p.phase = 13 ∨ p.phase = 14 ∨ p.phase = 19) :
    ∃ q', toPPs (lstep L i draw).procs = (toPPs L.procs).set i q' ∧ (lstep L i draw).past.length = L.past.length ∧ (∀ u, formH ((lstep L i draw).hist u) = formH (L.hist u) ∧ putsH ((lstep L i draw).hist u) = putsH (L.hist u) ∧ manyH 7 (-1) ((lstep L i draw).hist u) = manyH 7 (-1) (L.hist u)) ∧
      (p.phase = 13 → (roomyH c v (L.hist v) p.ticket = true ∧ q'.phase = 19 ∧ q'.node = p.node) ∨ (roomyH c v (L.hist v) p.ticket = false ∧ q' = toPP p)) ∧
      (p.phase = 14 → (itemH (L.hist v) p.ticket ≠ none ∧ q'.phase = 19 ∧ q'.node = p.node) ∨ (itemH (L.hist v) p.ticket = none ∧ q' = toPP p)) ∧
      (p.phase = 19 → (q'.phase = 20 ∨ (q'.phase = 19 ∧ q'.node = p.node / 2 ∧ p.node / 2 ≠ 0))) := by
  have hv := h.vN
  have e3 : ∀ (q : Pr) (ev : Ev), toPPs (((L.setP i (incPr p)).hap v nilV ev nilV).setP i q).procs = (toPPs L.procs).set i (toPP q) := by
    intro q ev
    rw [toPPs_setP]
    show (toPPs (L.setP i (incPr p)).procs).set i _ = _
    rw [toPPs_setP, List.set_set]
  have e4 : ∀ (q : Pr) (ev : Ev), (ev.what = 8 ∨ ev.what = 9) → ∀ u, formH ((((L.setP i (incPr p)).hap v nilV ev nilV).setP i q).hist u) = formH (L.hist u) ∧ putsH ((((L.setP i (incPr p)).hap v nilV ev nilV).setP i q).hist u) = putsH (L.hist u) ∧ manyH 7 (-1) ((((L.setP i (incPr p)).hap v nilV ev nilV).setP i q).hist u) = manyH 7 (-1) (L.hist u) := by
    intro q ev hev u
    have e : (((L.setP i (incPr p)).hap v nilV ev nilV).setP i q).hist u = if u = v then (ev, nilV) :: L.hist v else L.hist u := hist_hap (L.setP i (incPr p)) v u nilV ev nilV hv
    rw [e]
    by_cases eu : u = v
    · subst eu
      rw [if_pos rfl]
      have n3 : ¬ ev.what ≤ 3 := by omega
      have h3 : 3 < ev.what := by omega
      have n6 : ev.what ≠ 6 := by omega
      have n7 : ev.what ≠ 7 := by omega
      refine ⟨by simp [formH, n3], by unfold putsH; simp [fromH, manyH, n3, h3, n6], by simp [manyH, h3, n7]⟩
    · rw [if_neg eu]
      exact ⟨rfl, rfl, rfl⟩
  have e5 : ∀ (q : Pr) (ev : Ev), (((L.setP i (incPr p)).hap v nilV ev nilV).setP i q).past.length = L.past.length := fun q ev => hap_len (L.setP i (incPr p)) v nilV ev nilV
  have inc : toPP (incPr p) = toPP p := rfl
  rw [h.lat draw, h.lget]
  simp only
  rw [if_neg (by omega), if_neg (by omega), if_neg (by omega), if_neg (by omega), if_neg (by omega)]
  by_cases e13 : p.phase = 13
  · rw [if_pos e13]
    have hcL := h.rel.cL
    split
    · rename_i hro
      have hro' : roomyH L.c v (L.hist v) p.ticket = true := hro
      rw [hcL] at hro'
      exact ⟨_, e3 _ _, e5 _ _, e4 _ _ (Or.inl rfl), fun _ => Or.inl ⟨hro', rfl, rfl⟩, fun x => by omega, fun x => by omega⟩
    · rename_i hro
      have hro' : ¬ roomyH L.c v (L.hist v) p.ticket = true := hro
      rw [hcL] at hro'
      exact ⟨toPP p, by rw [toPPs_setP, inc], rfl, fun u => ⟨rfl, rfl, rfl⟩, fun _ => Or.inr ⟨by simpa using hro', rfl⟩, fun x => by omega, fun x => by omega⟩
  rw [if_neg e13]
  by_cases e14 : p.phase = 14
  · rw [if_pos e14]
    split
    · rename_i y hy
      have hy' : itemH (L.hist v) p.ticket = some y := hy
      exact ⟨_, e3 _ _, e5 _ _, e4 _ _ (Or.inr rfl), fun x => by omega, fun _ => Or.inl ⟨by rw [hy']; simp, rfl, rfl⟩, fun x => by omega⟩
    · rename_i hy
      have hy' : itemH (L.hist v) p.ticket = none := hy
      exact ⟨toPP p, by rw [toPPs_setP, inc], rfl, fun u => ⟨rfl, rfl, rfl⟩, fun x => by omega, fun _ => Or.inr ⟨hy', rfl⟩, fun x => by omega⟩
  rw [if_neg e14, if_neg (by omega)]
  have e19 : p.phase = 19 := by omega
  have em : lmove (L.setP i (incPr p)) v (incPr p) draw = upPr (incPr p) := by
    unfold lmove
    have ein : (incPr p).phase = p.phase := rfl
    rw [ein, if_neg (by omega), if_neg (by omega), if_neg (by omega), if_neg (by omega), if_neg (by omega), if_neg (by omega), if_neg (by omega), if_neg (by omega), if_neg (by omega), if_neg (by omega), if_neg (by omega), if_pos e19]
  rw [em]
  refine ⟨toPP (upPr (incPr p)), by rw [toPPs_setP, toPPs_setP, List.set_set], rfl, fun u => ⟨rfl, rfl, rfl⟩, fun x => by omega, fun x => by omega, fun _ => ?_⟩
  show (upPr (incPr p)).phase = 20 ∨ ((upPr (incPr p)).phase = 19 ∧ (upPr (incPr p)).node = p.node / 2 ∧ p.node / 2 ≠ 0)
  unfold upPr
  simp only
  have en : (incPr p).node = p.node := rfl
  rw [en]
  by_cases z : p.node / 2 = 0
  · left
    rw [if_pos z]
  · right
    rw [if_neg z]
    refine ⟨?_, ?_, z⟩ <;> first | trivial | rfl
end

end Go.Proofs.Ytjnmpejcegmkhab

namespace Go.Proofs.Ytjnmpejcegmkhab
open Go.RowKit

end Go.Proofs.Ytjnmpejcegmkhab

namespace Go.Proofs.Ytjnmpejcegmkhab
open Go.RowKit

abbrev KS : List TypeId := [81, 101, 108, 4]

theorem hstep2_c {w : World} {B hb : Nat} {c : Conf} {S : Gh} {P : PLay} (h : KSt w B hb c S P) (p draw : Int) :
    Calls Try.prog 25 #[.pointer (some ⟨hb, 0, none⟩), I p, I draw] w fun e w' => e = .returned (.bool true) ∧ (∃ P', KSt w' B hb c (gstep S p draw) P') ∧ ChgT B KS w w' := by
  have hpl := h.rel.plen
  have same : gstep S p draw = S → (Calls Try.prog 25 #[.pointer (some ⟨hb, 0, none⟩), I p, I draw] w fun e w' => e = .returned (.bool true) ∧ Below w.heap.size w w') → Calls Try.prog 25 #[.pointer (some ⟨hb, 0, none⟩), I p, I draw] w fun e w' => e = .returned (.bool true) ∧ (∃ P', KSt w' B hb c (gstep S p draw) P') ∧ ChgT B KS w w' := by
    intro eg hc
    rw [eg]
    refine hc.mono ?_
    rintro e w' ⟨rfl, hb'⟩
    exact ⟨rfl, ⟨P, h.below hb'⟩, ChgT.of_below hb'⟩
  by_cases hin : 0 ≤ p ∧ p < S.L.procs.length
  · obtain ⟨i, rfl⟩ := Int.eq_ofNat_of_zero_le hin.1
    have hi : i < S.L.procs.length := by omega
    have hiP : i < P.procs.length := by omega
    have htd := h.told i hi
    by_cases h20 : (S.L.procs[i]).2.phase = 20
    · refine same ?_ (kstep_done h.rep i hiP (by rw [htd]; exact h20) draw fun W hW => ?_)
      · unfold gstep
        rw [if_neg]
        rintro ⟨_, _, x⟩
        rw [Int.toNat_natCast, phaseAt_eq S.L i hi] at x
        exact x h20
      · have hv0 : 0 < P.nodes.length := by rw [h.rel.rel.plen]; omega
        obtain ⟨g, hf⟩ := PF.start hW hv0 hiP
        refine pStep_done hf ?_ draw
        have : P.procs[i] = toPP (S.L.procs[i]).2 := by simp [h.rel.rel.procs]
        rw [this]
        exact h20
    · obtain ⟨v, n, hh⟩ := h.rel.rel.here hi h20
      obtain ⟨p', hwt⟩ := hh.went h.rel.ck draw
      obtain ⟨ph, hps, _, _⟩ := h.rel.next (B := B) hi h20 draw
      have hlen' := went_len hwt
      have hph := hh.q.phase
      have eg : gstep S i draw = ⟨lstep S.L i draw, S.ops, S.went.set i true⟩ := by
        unfold gstep
        rw [if_pos ⟨hin.1, hin.2, by rw [Int.toNat_natCast, phaseAt_eq S.L i hi]; exact h20⟩, Int.toNat_natCast]
      have hF : ∀ P' : PLay, (P'.tb = P.tb ∧ CRel c (lstep S.L i draw) P') → P'.tb = P.tb ∧ P'.c = P.c ∧ P'.procs.length = P.procs.length ∧ (P'.procs.getD i zeroPP).phase = p'.phase := by
        rintro P' ⟨a, b⟩
        have hl' := b.plen
        refine ⟨a, by rw [b.rel.cP, h.rel.rel.cP], by omega, ?_⟩
        have e : P'.procs.getD i zeroPP = toPP ((lstep S.L i draw).procs[i]'(by omega)).2 := by
          rw [b.rel.procs, List.getD_eq_getElem?_getD, List.getElem?_map, List.getElem?_eq_getElem (by omega)]
          rfl
        rw [e, went_self hwt (by omega)]
        rfl
      have hsr := fun W (hW : PRep W B P) (hBW : B ≤ W.heap.size) => pStep_ret (B := B) hiP (by rw [show P.procs[i] = toPP (S.L.procs[i]).2 by simp [h.rel.rel.procs]]; exact h20) draw (F := fun P' => P'.tb = P.tb ∧ CRel c (lstep S.L i draw) P') (fun P' hP' => ⟨(hF P' hP').1, (hF P' hP').2.2.1⟩) hps.1 hW hBW
      rw [eg]
      refine (kstep_run h.rep h.hB i hiP draw p'.phase (S.L.procs[i]).2.phase (by rw [htd]) hph.1 (by omega) hwt.pm.behind (fun P' => P'.tb = P.tb ∧ CRel c (lstep S.L i draw) P') ?_ ?_).mono ?_
      · intro P' hP'
        obtain ⟨a, b, d, e⟩ := hF P' hP'
        refine ⟨a, b, d, ?_⟩
        unfold toldP
        rw [if_pos ⟨by omega, by omega⟩, Int.toNat_natCast]
        exact e
      · intro W hW hBW
        refine (hsr W hW hBW).mono ?_
        rintro x w' ⟨⟨P', rfl, hP', hr⟩, hc⟩
        exact ⟨by rw [(hF P' hP').2.2.2], ⟨P', hP', hr⟩, hc⟩
      · rintro e w' ⟨rfl, ⟨P', hP', hr⟩, hc⟩
        refine ⟨rfl, ⟨P', hr, hP'.2, Nat.le_trans h.hB hc.size, ?_⟩, hc.mono (Nat.le_refl _) (by simp)⟩
        refine ⟨by simp only [List.length_set]; rw [hlen']; exact h.of.wlen, by show S.ops = opsL (lstep S.L i draw); rw [opsL_went hwt hi rfl]; exact h.of.op, slot_went hwt hi rfl h.of.slot, fun j hj hj' hw => ?_⟩
        simp only at hj hj' hw ⊢
        by_cases e : j = i
        · subst e
          rw [List.getElem_set_self] at hw
          exact absurd hw (by simp)
        · rw [List.getElem_set_ne (Ne.symm e)] at hw
          have hjL : j < S.L.procs.length := by omega
          obtain ⟨x1, x2, x3, x4, x5, x6, _⟩ := pp_told (went_other hwt j hjL hj e)
          have := h.of.new j hjL (by have := h.of.wlen; omega) hw
          rw [x1, x2, x3, x4, x5, x6]
          exact this
  · refine same ?_ (kstep_none h.rep p (by omega) draw)
    unfold gstep
    rw [if_neg]
    rintro ⟨x, y, _⟩
    exact hin ⟨x, y⟩

end Go.Proofs.Ytjnmpejcegmkhab

namespace Go.Proofs.Ytjnmpejcegmkhab
open Go.RowKit

theorem kcalm_c (c : Conf) (hm : mayC c = true) (w : World) : Calls Try.prog 30 #[confV c] w fun e w' => e = .returned (I (calmR c)) ∧ Below w.heap.size w w' := by
  have hc : 0 ≤ c.depth ∧ c.depth ≤ 4 ∧ 0 ≤ c.spin ∧ c.spin ≤ 8 ∧ 0 ≤ c.drain ∧ c.drain ≤ 16 ∧ 1 ≤ c.procs ∧ c.procs ≤ 16 := by simp [mayC] at hm; omega
  have HR : Hid (calmR c = (c.procs + 1) * (c.drain + 8) + (c.depth + 1) * (c.spin + 12)) := rfl
  unfold confV
  generalize calmR c = R at *
  obtain ⟨kd, dp, st, sl, wd, sp, dr, pr⟩ := c
  simp only at *
  have b1 : (pr + 1) * (dr + 8) ≤ 17 * 24 := Int.mul_le_mul (by omega) (by omega) (by omega) (by omega)
  have b2 : 0 ≤ (pr + 1) * (dr + 8) := Int.mul_nonneg (by omega) (by omega)
  have b3 : (dp + 1) * (sp + 12) ≤ 5 * 20 := Int.mul_le_mul (by omega) (by omega) (by omega) (by omega)
  have b4 : 0 ≤ (dp + 1) * (sp + 12) := Int.mul_nonneg (by omega) (by omega)
  have hb : Below w.heap.size w (w.alloc (.cells #[I kd, I dp, I st, I sl, I wd, I sp, I dr, I pr] 23)) := (Below.refl _ _).alloc (Nat.le_refl _) _
  clear hm
  go_enter Try.func30, Try.ntmps30
  go_wp2_with fail
  go_ret
  exact ⟨by rw [HR.out]; rfl, hb⟩

end Go.Proofs.Ytjnmpejcegmkhab

namespace Go.Proofs.Ytjnmpejcegmkhab
open Go.RowKit

/-- Number x has been handed out by a leaf that there is now. -/
def Iss (L : Lay) (x : Int) : Prop := ∃ u t : Nat, 1 ≤ u ∧ u < L.past.length ∧ formH (L.hist u) = 2 ∧ x = (rank u : Int) + t * 2 ^ Nat.log2 u ∧ (t : Int) < putsH (L.hist u)

def endedI (q : PP) : Prop := q.kind = 0 ∧ (q.phase = 19 ∨ q.phase = 20)

structure NumOk (L : Lay) : Prop where
  iss : ∀ i, (hi : i < L.procs.length) → endedI (toPP (L.procs[i]).2) → Iss L (L.procs[i]).2.val
  diff : ∀ i j, (hi : i < L.procs.length) → (hj : j < L.procs.length) → i ≠ j → endedI (toPP (L.procs[i]).2) → endedI (toPP (L.procs[j]).2) → (L.procs[i]).2.val ≠ (L.procs[j]).2.val

/-- Two leaves hand out no number in common. -/
theorem rank_apart : ∀ u : Fin 32, ∀ v : Fin 32, 1 ≤ u.1 → 1 ≤ v.1 → u.1 ≠ v.1 → undB u.1 v.1 = false → undB v.1 u.1 = false → rank u.1 % 2 ^ (min (Nat.log2 u.1) (Nat.log2 v.1)) ≠ rank v.1 % 2 ^ (min (Nat.log2 u.1) (Nat.log2 v.1)) := by decide +kernel

theorem num_apart {u v : Nat} (hu : u < 32) (hv : v < 32) (u1 : 1 ≤ u) (v1 : 1 ≤ v) (hne : u ≠ v) (h1 : undB u v = false) (h2 : undB v u = false) (s t : Nat) : (rank u : Int) + s * 2 ^ Nat.log2 u ≠ (rank v : Int) + t * 2 ^ Nat.log2 v := by
  intro e
  have hr := rank_apart ⟨u, hu⟩ ⟨v, hv⟩ u1 v1 hne h1 h2
  simp only at hr
  have e' : rank u + s * 2 ^ Nat.log2 u = rank v + t * 2 ^ Nat.log2 v := by
    have : ((rank u + s * 2 ^ Nat.log2 u : Nat) : Int) = ((rank v + t * 2 ^ Nat.log2 v : Nat) : Int) := by push_cast; exact e
    omega
  apply hr
  have d1 : 2 ^ (min (Nat.log2 u) (Nat.log2 v)) ∣ s * 2 ^ Nat.log2 u := Nat.dvd_trans (Nat.pow_dvd_pow 2 (Nat.min_le_left _ _)) (Nat.dvd_mul_left _ _)
  have d2 : 2 ^ (min (Nat.log2 u) (Nat.log2 v)) ∣ t * 2 ^ Nat.log2 v := Nat.dvd_trans (Nat.pow_dvd_pow 2 (Nat.min_le_right _ _)) (Nat.dvd_mul_left _ _)
  generalize 2 ^ (min (Nat.log2 u) (Nat.log2 v)) = M at *
  obtain ⟨a, ha⟩ := d1
  obtain ⟨b, hb⟩ := d2
  rw [ha, hb] at e'
  have m1 : (rank u + M * a) % M = rank u % M := Nat.add_mul_mod_self_left _ _ _
  have m2 : (rank v + M * b) % M = rank v % M := Nat.add_mul_mod_self_left _ _ _
  rw [← m1, ← m2, e']

section
variable {c : Conf} {L : Lay} {P : PLay} {i v : Nat} {p : Pr} {n : PN}

/-- Of two leaves neither is below the other. -/
theorem leaf_apart (h : CRel c L P) {u v : Nat} (u1 : 1 ≤ u) (hu : u < L.past.length) (hf : formH (L.hist u) = 2) (hv : v < L.past.length) (hg : formH (L.hist v) ≠ 3) (hne : v ≠ u) : undB u v = false := by
  have hN := h.rel.lenle
  cases hh : undB u v with
  | false => rfl
  | true =>
    exfalso
    have key : ∀ w, w < L.past.length → w ≠ u → undB u w = true → formH (L.hist w) = 3 := by
      intro w
      induction w using Nat.strongRecOn with
      | _ w ih =>
        intro hw hne hun
        obtain ⟨a, b⟩ := und_half ⟨u, by omega⟩ ⟨w, by omega⟩ u1 hne hun
        simp only at a b
        by_cases e3 : formH (L.hist w) = 3
        · exact e3
        · have hp := h.ck.ci.par w b hw e3
          by_cases eu : w / 2 = u
          · rw [eu] at hp
            omega
          · have := ih (w / 2) (by omega) (by omega) eu a
            omega
    exact hg (key v hv hne hh)

theorem over_facts (l : Hist) (ev : Ev) (iv : Value) (h3 : 3 < ev.what) : formH ((ev, iv) :: l) = formH l ∧ putsH l ≤ putsH ((ev, iv) :: l) := by
  have hn3 : ¬ ev.what ≤ 3 := by omega
  constructor
  · simp [formH, hn3]
  · unfold putsH
    simp [fromH, manyH, hn3, h3]
    split <;> omega

theorem Here.over (h : Here c L P i v p n) (draw : Int) (h17 : p.phase ≠ 17) (u : Nat) : formH ((lstep L i draw).hist u) = formH (L.hist u) ∧ putsH (L.hist u) ≤ putsH ((lstep L i draw).hist u) := by
  have hv := h.vN
  have same : ∀ L' : Lay, L'.hist u = L.hist u → formH (L'.hist u) = formH (L.hist u) ∧ putsH (L.hist u) ≤ putsH (L'.hist u) := fun L' e => by rw [e]; exact ⟨rfl, Int.le_refl _⟩
  have happ : ∀ (q p' : Pr) (ev : Ev), 3 < ev.what → formH ((((L.setP i q).hap v nilV ev nilV).setP i p').hist u) = formH (L.hist u) ∧ putsH (L.hist u) ≤ putsH ((((L.setP i q).hap v nilV ev nilV).setP i p').hist u) := by
    intro q p' ev h3
    have e : (((L.setP i q).hap v nilV ev nilV).setP i p').hist u = if u = v then (ev, nilV) :: L.hist v else L.hist u := hist_hap (L.setP i q) v u nilV ev nilV hv
    rw [e]
    by_cases eu : u = v
    · rw [if_pos eu, eu]
      exact over_facts _ _ _ h3
    · rw [if_neg eu]
      exact ⟨rfl, Int.le_refl _⟩
  rw [h.lat draw, h.lget]
  simp only
  split
  · split
    · exact same _ rfl
    · split
      · exact same _ rfl
      · exact same _ rfl
  · split
    · exact happ _ _ _ (by show (3 : Int) < 5; decide)
    · split
      · exact happ _ _ _ (by show (3 : Int) < 5; decide)
      · split
        · exact happ _ _ _ (by show (3 : Int) < 4; decide)
        · split
          · split
            · exact happ _ _ _ (by show (3 : Int) < 6; decide)
            · split
              · exact happ _ _ _ (by show (3 : Int) < 6; decide)
              · exact happ _ _ _ (by show (3 : Int) < 7; decide)
          · split
            · split
              · exact happ _ _ _ (by show (3 : Int) < 8; decide)
              · exact same _ rfl
            · split
              · split
                · exact happ _ _ _ (by show (3 : Int) < 9; decide)
                · exact same _ rfl
              · exact same _ rfl

theorem Here.val19 (h : Here c L P i v p n) (draw : Int) {p' : Pr} (hw : Went L i v p p' (lstep L i draw)) (e19 : p.phase = 19) : p'.val = p.val := by
  have hi := h.hi
  have el : lstep L i draw = (L.setP i (incPr p)).setP i (upPr (incPr p)) := by
    rw [h.lat draw, h.lget]
    simp only
    rw [if_neg (by omega), if_neg (by omega), if_neg (by omega), if_neg (by omega), if_neg (by omega), if_neg (by omega), if_neg (by omega), if_neg (by omega)]
    unfold lmove
    have ein : (incPr p).phase = p.phase := rfl
    rw [ein, if_neg (by omega), if_neg (by omega), if_neg (by omega), if_neg (by omega), if_neg (by omega), if_neg (by omega), if_neg (by omega), if_neg (by omega), if_neg (by omega), if_neg (by omega), if_neg (by omega), if_pos e19]
  have e := hw.procs
  have e2 : ∀ q : Pr, toPPs ((L.setP i (incPr p)).setP i q).procs = (toPPs L.procs).set i (toPP q) := by
    intro q
    rw [toPPs_setP, toPPs_setP, List.set_set]
  rw [el, e2] at e
  have := (toPPs_setP_get (by rw [toPPs_len]; exact hi) e).symm
  have := (pp_told this).2.2.2.2.2.1
  rw [this]
  rfl

theorem Here.val12 (h : Here c L P i v p n) (draw : Int) {p' : Pr} (hw : Went L i v p p' (lstep L i draw)) (e12 : p.phase = 12) (k0 : p.kind = 0) : p'.val = (rank v : Int) + putsH (L.hist v) * 2 ^ Nat.log2 v ∧ putsH ((lstep L i draw).hist v) = putsH (L.hist v) + 1 := by
  have hi := h.hi
  have el : lstep L i draw = ((L.setP i (incPr p)).hap v nilV ⟨6, 0, 0, []⟩ nilV).setP i { incPr p with val := rank v + putsH (L.hist v) * 2 ^ Nat.log2 v, phase := 19 } := by
    rw [h.lat draw, h.lget]
    simp only
    rw [if_neg (by omega), if_neg (by omega), if_neg (by omega), if_neg (by omega), if_pos e12, if_pos k0]
  constructor
  · have e := hw.procs
    rw [el] at e
    have e2 : ∀ q : Pr, toPPs (((L.setP i (incPr p)).hap v nilV ⟨6, 0, 0, []⟩ nilV).setP i q).procs = (toPPs L.procs).set i (toPP q) := by
      intro q
      rw [toPPs_setP]
      show (toPPs (L.setP i (incPr p)).procs).set i _ = _
      rw [toPPs_setP, List.set_set]
    rw [e2] at e
    have := (toPPs_setP_get (by rw [toPPs_len]; exact hi) e).symm
    have := (pp_told this).2.2.2.2.2.1
    rw [this]
  · rw [el]
    have e : (((L.setP i (incPr p)).hap v nilV ⟨6, 0, 0, []⟩ nilV).setP i { incPr p with val := rank v + putsH (L.hist v) * 2 ^ Nat.log2 v, phase := 19 }).hist v = (⟨6, 0, 0, []⟩, nilV) :: L.hist v := by
      have := hist_hap (L.setP i (incPr p)) v v nilV ⟨6, 0, 0, []⟩ nilV h.vN
      rw [if_pos rfl] at this
      exact this
    rw [e]
    unfold putsH
    simp [fromH, manyH]
    omega
end

theorem Iss.over {L L' : Lay} (hl : L'.past.length = L.past.length) (h : ∀ u, formH (L'.hist u) = formH (L.hist u) ∧ putsH (L.hist u) ≤ putsH (L'.hist u)) {x : Int} (hx : Iss L x) : Iss L' x := by
  obtain ⟨u, t, a, b, d, e, f⟩ := hx
  obtain ⟨g1, g2⟩ := h u
  exact ⟨u, t, a, by omega, by rw [g1]; exact d, e, by omega⟩

end Go.Proofs.Ytjnmpejcegmkhab

namespace Go.Proofs.Ytjnmpejcegmkhab
open Go.RowKit

/-- Of a counter: who was met was met by an Inc; no Inc is in Fetch. -/
def MetQ (ps : Prs) (q : Pr) : Prop := ((q.phase = 6 ∨ q.phase = 7) → 0 ≤ q.met → kindAt ps q.met = 0) ∧ (q.kind = 0 → q.phase ≠ 14)
def MetOk (L : Lay) : Prop := ∀ i, (hi : i < L.procs.length) → MetQ L.procs (L.procs[i]).2

theorem MetQ.kinds {ps ps' : Prs} {q : Pr} (h : MetQ ps q) (hk : ∀ m, kindAt ps' m = kindAt ps m) : MetQ ps' q := ⟨fun a b => by rw [hk]; exact h.1 a b, h.2⟩

theorem met_one {L L' : Lay} (h : MetOk L) {i : Nat} (hi : i < L.procs.length) {pb : Nat} {p' : Pr} (hp : L'.procs = L.procs.set i (pb, p')) (hk : p'.kind = (L.procs[i]).2.kind) (hq : MetQ L.procs p') : MetOk L' := by
  intro j hj
  have hks : ∀ m, kindAt L'.procs m = kindAt L.procs m := fun m => by rw [hp]; exact kindAt_set hi hk m
  have hj' : j < L.procs.length := by rw [hp] at hj; simpa using hj
  by_cases e : j = i
  · subst e
    have : (L'.procs[j]).2 = p' := by
      have : ∀ (l : Prs) (hl : l = L.procs.set j (pb, p')) (hx : j < l.length), (l[j]).2 = p' := by
        intro l hl hx
        subst hl
        rw [List.getElem_set_self]
      exact this _ hp hj
    rw [this]
    exact hq.kinds hks
  · have : L'.procs[j] = L.procs[j] := by
      have : ∀ (l : Prs) (hl : l = L.procs.set i (pb, p')) (hx : j < l.length), l[j] = L.procs[j] := by
        intro l hl hx
        subst hl
        rw [List.getElem_set_ne (Ne.symm e)]
      exact this _ hp hj
    rw [this]
    exact (h j hj').kinds hks

section
variable {c : Conf} {L : Lay} {P : PLay} {i v : Nat} {p : Pr} {n : PN}

theorem Here.met (h : Here c L P i v p n) (ck : CK c L P) (hc : c.kind = 0) (draw : Int) (ht : MetOk L) : MetOk (lstep L i draw) := by
  have hi := h.hi
  have hep := h.ep
  have hph := h.q.phase
  have hlive := h.live
  have hcq := ck.ci.cq i hi
  rw [hep] at hcq
  have hkp := hcq.kp
  have hq0 := ht i hi
  rw [hep] at hq0
  have hkd := h.q.kind
  have no : ∀ q : Pr, q.kind = p.kind → ¬ (q.phase = 6 ∨ q.phase = 7) → q.phase ≠ 14 → MetQ L.procs q := fun q _ a b => ⟨fun x => absurd x a, fun _ => b⟩
  have stay : ∀ q p' : Pr, p'.kind = p.kind → MetQ L.procs p' → MetOk ((L.setP i q).setP i p') := by
    intro q p' e1 e2
    refine met_one ht hi (pb := (L.procs.getD i (0, q)).1) (p' := p') ?_ (by rw [hep]; exact e1) e2
    show (L.procs.set i _).set i _ = _
    rw [List.set_set]
    congr 2
    simp [List.getD_eq_getElem?_getD, hi]
  have one : ∀ p' : Pr, p'.kind = p.kind → MetQ L.procs p' → MetOk (L.setP i p') := fun p' e1 e2 => met_one ht hi (pb := (L.procs.getD i (0, p')).1) (p' := p') rfl (by rw [hep]; exact e1) e2
  have any : ∀ (L' : Lay) (q p' : Pr), L'.procs = (L.setP i q).procs → p'.kind = p.kind → MetQ L.procs p' → MetOk (L'.setP i p') := by
    intro L' q p' e0 e1 e2
    refine met_one ht hi (pb := (L.procs.getD i (0, q)).1) (p' := p') ?_ (by rw [hep]; exact e1) e2
    show L'.procs.set i _ = _
    rw [e0]
    show (L.procs.set i _).set i _ = _
    rw [List.set_set]
    congr 2
    simp [List.getD_eq_getElem?_getD, hi]
  rw [h.lat draw, h.lget]
  simp only
  by_cases e8 : p.phase = 8
  · rw [if_pos e8]
    obtain ⟨j, hm, hj, hji⟩ := h.q.mind e8
    have ej : p.mind.toNat = j := by omega
    rw [ej, List.getElem?_eq_getElem hj]
    simp only
    split
    · have kp3 : p.kind < 3 := Int.not_le.1 fun x => by have := hkp.chg x; omega
      have kp0 : p.kind = 0 := by omega
      have hyj := ht j hj
      obtain ⟨y, hy⟩ : ∃ y, (L.procs[j]).2 = y := ⟨_, rfl⟩
      rw [hy] at hyj ⊢
      obtain ⟨y', hy'⟩ : ∃ y' : Pr, y' = { y with met := (i : Int) } := ⟨_, rfl⟩
      rw [← hy']
      have ks : (settledPr (incPr p) y 1).kind = p.kind := by
        unfold settledPr
        split
        · rfl
        · split <;> rfl
      have ps : ¬ ((settledPr (incPr p) y 1).phase = 6 ∨ (settledPr (incPr p) y 1).phase = 7) ∧ (settledPr (incPr p) y 1).phase ≠ 14 := by
        unfold settledPr
        split
        · show ¬ ((0 : Int) = 6 ∨ (0 : Int) = 7) ∧ (0 : Int) ≠ 14
          decide
        · split
          · show ¬ ((19 : Int) = 6 ∨ (19 : Int) = 7) ∧ (19 : Int) ≠ 14
            decide
          · show ¬ ((19 : Int) = 6 ∨ (19 : Int) = 7) ∧ (19 : Int) ≠ 14
            decide
      have kat : kindAt L.procs (i : Int) = 0 := by
        unfold kindAt
        simp [hi, hep, kp0]
      have qy' : MetQ L.procs y' := by
        rw [hy']
        exact ⟨fun _ _ => kat, hyj.2⟩
      have ky' : y'.kind = (L.procs[j]).2.kind := by rw [hy', hy]
      generalize settledPr (incPr p) y 1 = p' at *
      obtain ⟨a, b, eproc⟩ : ∃ a b, (((L.setP i (incPr p)).setP j y').setP i p').procs = (L.procs.set j (a, y')).set i (b, p') := by
        have e3 : ∀ x0 x1 x2 : Nat × Pr, ((L.procs.set i x0).set j x1).set i x2 = (L.procs.set j x1).set i x2 := by
          intro x0 x1 x2
          rw [List.set_comm _ _ (Ne.symm hji), List.set_set]
        exact ⟨_, _, e3 _ (_, y') (_, p')⟩
      have h1 : MetOk ({ L with procs := L.procs.set j (a, y') } : Lay) := met_one ht hj rfl ky' qy'
      have hij : i < ({ L with procs := L.procs.set j (a, y') } : Lay).procs.length := by simpa using hi
      have egi : (({ L with procs := L.procs.set j (a, y') } : Lay).procs[i]).2 = p := by
        show ((L.procs.set j (a, y'))[i]).2 = p
        rw [List.getElem_set_ne hji]
        exact hep
      exact met_one h1 hij eproc (by rw [egi]; exact ks) ⟨fun x => absurd x ps.1, fun _ => ps.2⟩
    · exact stay _ _ rfl (no _ rfl (by show ¬ ((9 : Int) = 6 ∨ (9 : Int) = 7); decide) (by show (9 : Int) ≠ 14; decide))
  rw [if_neg e8]
  by_cases e9 : p.phase = 9
  · rw [if_pos e9]
    exact any _ (incPr p) _ rfl rfl (no _ rfl (by show ¬ ((11 : Int) = 6 ∨ (11 : Int) = 7); decide) (by show (11 : Int) ≠ 14; decide))
  rw [if_neg e9]
  by_cases e10 : p.phase = 10
  · rw [if_pos e10]
    exact any _ (incPr p) _ rfl rfl (no _ rfl (by show ¬ ((11 : Int) = 6 ∨ (11 : Int) = 7); decide) (by show (11 : Int) ≠ 14; decide))
  rw [if_neg e10]
  by_cases e11 : p.phase = 11
  · rw [if_pos e11]
    exact any _ (incPr p) _ rfl rfl (no _ rfl (by show ¬ ((0 : Int) = 6 ∨ (0 : Int) = 7); decide) (by show (0 : Int) ≠ 14; decide))
  rw [if_neg e11]
  by_cases e12 : p.phase = 12
  · rw [if_pos e12]
    split
    · exact any _ (incPr p) _ rfl rfl (no _ rfl (by show ¬ ((19 : Int) = 6 ∨ (19 : Int) = 7); decide) (by show (19 : Int) ≠ 14; decide))
    · rename_i k0
      split
      · exact any _ (incPr p) _ rfl rfl (no _ rfl (by show ¬ ((13 : Int) = 6 ∨ (13 : Int) = 7); decide) (by show (13 : Int) ≠ 14; decide))
      · exact any _ (incPr p) _ rfl rfl ⟨fun x => absurd x (by show ¬ ((14 : Int) = 6 ∨ (14 : Int) = 7); decide), fun x => absurd x k0⟩
  rw [if_neg e12]
  by_cases e13 : p.phase = 13
  · rw [if_pos e13]
    split
    · exact any _ (incPr p) _ rfl rfl (no _ rfl (by show ¬ ((19 : Int) = 6 ∨ (19 : Int) = 7); decide) (by show (19 : Int) ≠ 14; decide))
    · exact one _ rfl (no _ rfl (by show ¬ (p.phase = 6 ∨ p.phase = 7); omega) (by show p.phase ≠ 14; omega))
  rw [if_neg e13]
  by_cases e14 : p.phase = 14
  · rw [if_pos e14]
    split
    · exact any _ (incPr p) _ rfl rfl (no _ rfl (by show ¬ ((19 : Int) = 6 ∨ (19 : Int) = 7); decide) (by show (19 : Int) ≠ 14; decide))
    · exact one _ rfl ⟨fun x => absurd x (by show ¬ (p.phase = 6 ∨ p.phase = 7); omega), fun x => hq0.2 x⟩
  rw [if_neg e14]
  have upp : ∀ q : Pr, q.kind = p.kind → q.phase = p.phase → ¬ (p.phase = 6 ∨ p.phase = 7) → MetQ L.procs (upPr q) := by
    intro q a b d
    have hup : (upPr q).phase = 19 ∨ (upPr q).phase = 20 := by
      unfold upPr
      simp only
      split
      · exact Or.inr rfl
      · exact Or.inl rfl
    exact ⟨fun x => by omega, fun _ => by omega⟩
  by_cases e17 : p.phase = 17
  · rw [if_pos e17]
    split
    · exact any _ (incPr p) _ rfl rfl (upp _ rfl rfl (by omega))
    · split
      · exact stay _ _ rfl (upp _ rfl rfl (by omega))
      · exact any _ (incPr p) _ rfl rfl (upp _ rfl rfl (by omega))
  rw [if_neg e17]
  have hmv : (lmove (L.setP i (incPr p)) v (incPr p) draw).kind = p.kind ∧ MetQ L.procs (lmove (L.setP i (incPr p)) v (incPr p) draw) := by
    unfold lmove
    have ein : (incPr p).phase = p.phase := rfl
    rw [ein]
    by_cases e0 : p.phase = 0
    · rw [if_pos e0]
      exact ⟨rfl, no _ rfl (by show ¬ ((1 : Int) = 6 ∨ (1 : Int) = 7); decide) (by show (1 : Int) ≠ 14; decide)⟩
    rw [if_neg e0]
    by_cases e1 : p.phase = 1
    · rw [if_pos e1]
      split
      · exact ⟨rfl, no _ rfl (by show ¬ ((2 : Int) = 6 ∨ (2 : Int) = 7); decide) (by show (2 : Int) ≠ 14; decide)⟩
      · split
        · refine ⟨rfl, no _ rfl ?_ ?_⟩
          · show ¬ ((if _ then (3 : Int) else 12) = 6 ∨ (if _ then (3 : Int) else 12) = 7)
            split <;> decide
          · show (if _ then (3 : Int) else 12) ≠ 14
            split <;> decide
        · split
          · refine ⟨rfl, no _ rfl ?_ ?_⟩
            · show ¬ ((if _ then (15 : Int) else 0) = 6 ∨ (if _ then (15 : Int) else 0) = 7)
              split <;> decide
            · show (if _ then (15 : Int) else 0) ≠ 14
              split <;> decide
          · exact ⟨rfl, no _ rfl (by show ¬ ((19 : Int) = 6 ∨ (19 : Int) = 7); decide) (by show (19 : Int) ≠ 14; decide)⟩
    rw [if_neg e1]
    by_cases e2 : p.phase = 2
    · rw [if_pos e2]
      exact ⟨rfl, no _ rfl (by show ¬ ((0 : Int) = 6 ∨ (0 : Int) = 7); decide) (by show (0 : Int) ≠ 14; decide)⟩
    rw [if_neg e2]
    by_cases e3 : p.phase = 3
    · rw [if_pos e3]
      exact ⟨rfl, no _ rfl (by show ¬ ((4 : Int) = 6 ∨ (4 : Int) = 7); decide) (by show (4 : Int) ≠ 14; decide)⟩
    rw [if_neg e3]
    by_cases e4 : p.phase = 4
    · rw [if_pos e4]
      split
      · exact ⟨rfl, no _ rfl (by show ¬ ((5 : Int) = 6 ∨ (5 : Int) = 7); decide) (by show (5 : Int) ≠ 14; decide)⟩
      · split
        · split
          · exact ⟨rfl, no _ rfl (by show ¬ ((11 : Int) = 6 ∨ (11 : Int) = 7); decide) (by show (11 : Int) ≠ 14; decide)⟩
          · exact ⟨rfl, no _ rfl (by show ¬ ((8 : Int) = 6 ∨ (8 : Int) = 7); decide) (by show (8 : Int) ≠ 14; decide)⟩
        · exact ⟨rfl, no _ rfl (by show ¬ (p.phase = 6 ∨ p.phase = 7); omega) (by show p.phase ≠ 14; omega)⟩
    rw [if_neg e4]
    by_cases e5 : p.phase = 5
    · rw [if_pos e5]
      split
      · exact ⟨rfl, ⟨fun _ x => absurd x (by show ¬ (0 : Int) ≤ -1; decide), fun _ => by show (6 : Int) ≠ 14; decide⟩⟩
      · exact ⟨rfl, no _ rfl (by show ¬ ((9 : Int) = 6 ∨ (9 : Int) = 7); decide) (by show (9 : Int) ≠ 14; decide)⟩
    rw [if_neg e5]
    by_cases e6 : p.phase = 6
    · rw [if_pos e6]
      unfold waitPr
      split
      · exact ⟨rfl, ⟨fun _ x => hq0.1 (Or.inl e6) x, fun _ => by show (7 : Int) ≠ 14; decide⟩⟩
      · split
        · exact ⟨rfl, ⟨fun _ x => hq0.1 (Or.inl e6) x, fun _ => by show p.phase ≠ 14; omega⟩⟩
        · exact ⟨rfl, no _ rfl (by show ¬ ((10 : Int) = 6 ∨ (10 : Int) = 7); decide) (by show (10 : Int) ≠ 14; decide)⟩
    rw [if_neg e6]
    by_cases e7 : p.phase = 7
    · rw [if_pos e7]
      split
      · unfold settledPr
        split
        · exact ⟨rfl, no _ rfl (by show ¬ ((0 : Int) = 6 ∨ (0 : Int) = 7); decide) (by show (0 : Int) ≠ 14; decide)⟩
        · split
          · exact ⟨rfl, no _ rfl (by show ¬ ((19 : Int) = 6 ∨ (19 : Int) = 7); decide) (by show (19 : Int) ≠ 14; decide)⟩
          · exact ⟨rfl, no _ rfl (by show ¬ ((19 : Int) = 6 ∨ (19 : Int) = 7); decide) (by show (19 : Int) ≠ 14; decide)⟩
      · exact ⟨rfl, ⟨fun _ x => hq0.1 (Or.inr e7) x, fun _ => by show p.phase ≠ 14; omega⟩⟩
    rw [if_neg e7]
    by_cases e15 : p.phase = 15
    · rw [if_pos e15]
      unfold shutCh
      split
      · exact ⟨rfl, upp _ rfl rfl (by omega)⟩
      · exact ⟨rfl, no _ rfl (by show ¬ ((16 : Int) = 6 ∨ (16 : Int) = 7); decide) (by show (16 : Int) ≠ 14; decide)⟩
    rw [if_neg e15]
    by_cases e16 : p.phase = 16
    · rw [if_pos e16]
      unfold drainCh
      split
      · exact ⟨rfl, no _ rfl (by show ¬ ((17 : Int) = 6 ∨ (17 : Int) = 7); decide) (by show (17 : Int) ≠ 14; decide)⟩
      · split
        · exact ⟨rfl, no _ rfl (by show ¬ (p.phase = 6 ∨ p.phase = 7); omega) (by show p.phase ≠ 14; omega)⟩
        · exact ⟨rfl, no _ rfl (by show ¬ ((18 : Int) = 6 ∨ (18 : Int) = 7); decide) (by show (18 : Int) ≠ 14; decide)⟩
    rw [if_neg e16]
    by_cases e18 : p.phase = 18
    · rw [if_pos e18]
      exact ⟨rfl, upp _ rfl rfl (by omega)⟩
    rw [if_neg e18]
    by_cases e19 : p.phase = 19
    · rw [if_pos e19]
      exact ⟨rfl, upp _ rfl rfl (by omega)⟩
    omega
  exact stay _ _ hmv.1 hmv.2
end

end Go.Proofs.Ytjnmpejcegmkhab

namespace Go.Proofs.Ytjnmpejcegmkhab
open Go.RowKit

section
variable {c : Conf} {L : Lay} {P : PLay} {i v : Nat} {p : Pr} {n : PN}

/-- An Inc of a counter ends at a Ticket, or has ended. -/
theorem Here.ends (h : Here c L P i v p n) (ck : CK c L P) (hc : c.kind = 0) (draw : Int) (hm : MetOk L) {p' : Pr} (hw : Went L i v p p' (lstep L i draw)) (k0 : p.kind = 0) (he : p'.phase = 19 ∨ p'.phase = 20) : p.phase = 12 ∨ p.phase = 19 := by
  have hi := h.hi
  have hep := h.ep
  have ha := h.at'
  have hph := h.q.phase
  have hlive := h.live
  have hcq := ck.ci.cq i hi
  rw [hep] at hcq
  have hkp := hcq.kp
  have hq0 := hm i hi
  rw [hep] at hq0
  have hpm := hw.pm
  have w15 := hkp.walk (by omega)
  have t13 := h.q.tick.2.2
  have n14 := hq0.2 k0
  have hcand : p.phase = 1 ∨ p.phase = 7 ∨ p.phase = 8 ∨ p.phase = 12 ∨ p.phase = 19 := by
    have : p.phase = 1 ∨ p.phase = 7 ∨ p.phase = 8 ∨ p.phase = 12 ∨ p.phase = 13 ∨ p.phase = 14 ∨ p.phase = 15 ∨ p.phase = 17 ∨ p.phase = 18 ∨ p.phase = 19 := by
      generalize p.phase = a at *
      generalize p'.phase = b at *
      generalize p'.node = nd at *
      clear t13 n14 w15 hq0 hkp hcq
      cases hpm <;> omega
    have x13 : p.phase ≠ 13 := fun e => by have := (t13 e).1; omega
    omega
  have e2 : ∀ q : Pr, toPPs ((L.setP i (incPr p)).setP i q).procs = (toPPs L.procs).set i (toPP q) := by
    intro q
    rw [toPPs_setP, toPPs_setP, List.set_set]
  have hpr := hw.procs
  rcases hcand with e1 | e7 | e8 | e | e
  · exfalso
    have el : lstep L i draw = (L.setP i (incPr p)).setP i (lmove (L.setP i (incPr p)) v (incPr p) draw) := by
      rw [h.lat draw, h.lget]
      simp only
      rw [if_neg (by omega), if_neg (by omega), if_neg (by omega), if_neg (by omega), if_neg (by omega), if_neg (by omega), if_neg (by omega), if_neg (by omega)]
    rw [el, e2] at hpr
    have hp' := (pp_told (toPPs_setP_get (by rw [toPPs_len]; exact hi) hpr).symm).2.2.2.1
    rw [hp'] at he
    revert he
    unfold lmove
    have ein : (incPr p).phase = p.phase := rfl
    rw [ein, if_neg (by omega), if_pos e1]
    split
    · show ¬ ((2 : Int) = 19 ∨ (2 : Int) = 20)
      decide
    · rw [if_pos (show (incPr p).kind < 3 by show p.kind < 3; omega)]
      show ¬ ((if _ then (3 : Int) else 12) = 19 ∨ (if _ then (3 : Int) else 12) = 20)
      split <;> decide
  · exfalso
    have el : lstep L i draw = (L.setP i (incPr p)).setP i (lmove (L.setP i (incPr p)) v (incPr p) draw) := by
      rw [h.lat draw, h.lget]
      simp only
      rw [if_neg (by omega), if_neg (by omega), if_neg (by omega), if_neg (by omega), if_neg (by omega), if_neg (by omega), if_neg (by omega), if_neg (by omega)]
    rw [el, e2] at hpr
    have hp' := (pp_told (toPPs_setP_get (by rw [toPPs_len]; exact hi) hpr).symm).2.2.2.1
    rw [hp'] at he
    revert he
    unfold lmove
    have ein : (incPr p).phase = p.phase := rfl
    rw [ein, if_neg (by omega), if_neg (by omega), if_neg (by omega), if_neg (by omega), if_neg (by omega), if_neg (by omega), if_neg (by omega), if_pos e7]
    obtain ⟨k, hk, hs⟩ := h.slotk
    have hf := h.inner (by omega) (by omega)
    have hsr := h.slotRel hf hk
    have hwi : waitP v k (L.procs[i]).2 = true := by
      rw [hep]
      unfold waitP
      simp [ha, hs, e7]
    obtain ⟨b, hb, hbl⟩ : ∃ b : Nat, p.met = (b : Int) ∧ b < L.procs.length := by
      rcases hsr with ⟨_, x⟩ | ⟨j, hj, _, _, x3, x4⟩
      · rw [x i hi] at hwi
        exact absurd hwi (by decide)
      · have eij := x3 i hi hwi
        subst eij
        rw [hep] at x4
        rcases x4 with x4 | ⟨_, b, _, x5, x6, _⟩
        · omega
        · exact ⟨b, x5, x6⟩
    have hkat := hq0.1 (Or.inr e7) (by omega)
    have kb : (L.procs[b]).2.kind = 0 := by
      unfold kindAt at hkat
      rw [hb] at hkat
      simpa [hbl] using hkat
    have eM : ∃ y, (L.setP i (incPr p)).procs[(incPr p).met.toNat]? = some y ∧ y.2.kind = 0 := by
      have em : (incPr p).met.toNat = b := by show p.met.toNat = b; omega
      rw [em]
      by_cases eb : b = i
      · subst eb
        refine ⟨((L.procs.getD b (0, incPr p)).1, incPr p), ?_, k0⟩
        show (L.procs.set b _)[b]? = _
        rw [List.getElem?_set_self hi]
      · refine ⟨L.procs[b], ?_, kb⟩
        show (L.procs.set i _)[b]? = _
        rw [List.getElem?_set_ne (Ne.symm eb), List.getElem?_eq_getElem hbl]
    obtain ⟨y, ey, ky⟩ := eM
    rw [ey]
    simp only
    unfold settledPr
    rw [if_pos (show ({ incPr p with met := -1 } : Pr).kind = y.2.kind by rw [ky]; exact k0)]
    show ¬ ((0 : Int) = 19 ∨ (0 : Int) = 20)
    decide
  · exfalso
    obtain ⟨j, hmj, hj, hji⟩ := h.q.mind e8
    have ej : p.mind.toNat = j := by omega
    by_cases hme : meets (L.setP i (incPr p)) (incPr p) (L.procs[j]).2 = true
    · have el : lstep L i draw = ((L.setP i (incPr p)).setP j { (L.procs[j]).2 with met := (i : Int) }).setP i (settledPr (incPr p) (L.procs[j]).2 1) := by
        rw [h.lat draw, h.lget]
        simp only
        rw [if_pos e8, ej, List.getElem?_eq_getElem hj]
        simp only
        rw [if_pos hme]
      have y6 : (L.procs[j]).2.phase = 6 := by
        unfold meets at hme
        simp only [Bool.and_eq_true, decide_eq_true_eq] at hme
        exact hme.1.2
      have hqj := (h.rel.qs j hj).kind
      have hkj := (ck.ci.cq j hj).kp
      have kj3 : (L.procs[j]).2.kind < 3 := Int.not_le.1 fun x => by have := hkj.chg x; omega
      have kj0 : (L.procs[j]).2.kind = 0 := by omega
      have hi' : i < (lstep L i draw).procs.length := by rw [went_len hw]; exact hi
      have hs := went_self hw hi'
      have hl : ∀ (M : Lay) (hM : M = ((L.setP i (incPr p)).setP j { (L.procs[j]).2 with met := (i : Int) }).setP i (settledPr (incPr p) (L.procs[j]).2 1)) (hx : i < M.procs.length), (M.procs[i]).2 = settledPr (incPr p) (L.procs[j]).2 1 := by
        intro M hM hx
        subst hM
        show ((((L.procs.set i _).set j _).set i _)[i]).2 = _
        rw [List.getElem_set_self]
      rw [hl _ el hi'] at hs
      have hp' := (pp_told hs).2.2.2.1
      rw [← hp'] at he
      revert he
      unfold settledPr
      rw [if_pos (show (incPr p).kind = (L.procs[j]).2.kind by rw [kj0]; exact k0)]
      show ¬ ((0 : Int) = 19 ∨ (0 : Int) = 20)
      decide
    · have el : lstep L i draw = (L.setP i (incPr p)).setP i { incPr p with phase := 9 } := by
        rw [h.lat draw, h.lget]
        simp only
        rw [if_pos e8, ej, List.getElem?_eq_getElem hj]
        simp only
        rw [if_neg hme]
      rw [el, e2] at hpr
      have hp' := (pp_told (toPPs_setP_get (by rw [toPPs_len]; exact hi) hpr).symm).2.2.2.1
      rw [hp'] at he
      revert he
      show ¬ ((9 : Int) = 19 ∨ (9 : Int) = 20)
      decide
  · exact Or.inl e
  · exact Or.inr e

theorem Here.num_over (h : Here c L P i v p n) (hr : CRel c L P) (hc : c.kind = 0) (draw : Int) (hm : MetOk L) (hn : NumOk L) (h17 : p.phase ≠ 17) : NumOk (lstep L i draw) := by
  obtain ⟨p', hw⟩ := h.went hr.ck draw
  have hi := h.hi
  have hep := h.ep
  have hlen := went_len hw
  have hov := h.over draw h17
  have hN := hr.rel.lenle
  have hv := h.vN
  -- who has ended: as before, or the one that took a number
  have key : ∀ j, (hj : j < (lstep L i draw).procs.length) → endedI (toPP ((lstep L i draw).procs[j]).2) →
      (∃ hj0 : j < L.procs.length, endedI (toPP (L.procs[j]).2) ∧ ((lstep L i draw).procs[j]).2.val = (L.procs[j]).2.val) ∨
      (j = i ∧ formH (L.hist v) = 2 ∧ ((lstep L i draw).procs[j]).2.val = (rank v : Int) + putsH (L.hist v) * 2 ^ Nat.log2 v ∧ putsH ((lstep L i draw).hist v) = putsH (L.hist v) + 1) := by
    intro j hj he
    have hj0 : j < L.procs.length := by omega
    by_cases e : j = i
    · subst e
      have hs := went_self hw hj
      rw [hs] at he
      have hval := (pp_told hs).2.2.2.2.2.1
      have k0 : p.kind = 0 := by rw [← hw.op.1]; exact he.1
      rcases h.ends hr.ck hc draw hm hw k0 he.2 with e12 | e19
      · obtain ⟨a, b⟩ := h.val12 draw hw e12 k0
        exact Or.inr ⟨rfl, h.isLeaf (by omega) (by omega), by rw [hval]; exact a, b⟩
      · refine Or.inl ⟨hj0, ?_, ?_⟩
        · rw [hep]
          exact ⟨k0, Or.inl e19⟩
        · rw [hval, hep]
          exact h.val19 draw hw e19
    · have ho := went_other hw j hj0 hj e
      rw [ho] at he
      exact Or.inl ⟨hj0, he, (pp_told ho).2.2.2.2.2.1⟩
  have hpos : 0 ≤ putsH (L.hist v) := by
    have := hr.rel.fn v hv
    unfold putsH
    omega
  have clash : ∀ x : Int, Iss L x → formH (L.hist v) = 2 → x ≠ (rank v : Int) + putsH (L.hist v) * 2 ^ Nat.log2 v := by
    rintro x ⟨u, t, u1, hu, hf, rfl, ht⟩ hfv
    obtain ⟨s, hs⟩ := Int.eq_ofNat_of_zero_le hpos
    rw [hs]
    by_cases e : u = v
    · subst e
      rw [hs] at ht
      intro e
      have hlt : (t : Int) * 2 ^ Nat.log2 u < (s : Int) * 2 ^ Nat.log2 u := by
        have hp : (0 : Int) < 2 ^ Nat.log2 u := by
          have := Nat.two_pow_pos (Nat.log2 u)
          have e2 : ((2 ^ Nat.log2 u : Nat) : Int) = 2 ^ Nat.log2 u := by push_cast; rfl
          omega
        exact Int.mul_lt_mul_of_pos_right ht hp
      omega
    · exact num_apart (by omega) h.v32 u1 h.v1 e (leaf_apart hr u1 hu hf hv h.f3 (Ne.symm e)) (leaf_apart hr h.v1 hv hfv hu (by rw [hf]; decide) e) t s
  refine ⟨fun j hj he => ?_, fun j k hj hk hne hej hek => ?_⟩
  · rcases key j hj he with ⟨hj0, a, b⟩ | ⟨_, a, b, d⟩
    · rw [b]
      exact Iss.over hw.past hov (hn.iss j hj0 a)
    · obtain ⟨s, hs⟩ := Int.eq_ofNat_of_zero_le hpos
      refine ⟨v, s, h.v1, by rw [hw.past]; exact hv, by rw [(hov v).1]; exact a, by rw [b, hs], by rw [d, hs]; show (s : Int) < (s : Int) + 1; omega⟩
  · rcases key j hj hej with ⟨hj0, a, b⟩ | ⟨ej, a, b, _⟩
    · rcases key k hk hek with ⟨hk0, a', b'⟩ | ⟨ek, a', b', _⟩
      · rw [b, b']
        exact hn.diff j k hj0 hk0 hne a a'
      · rw [b, b']
        exact clash _ (hn.iss j hj0 a) a'
    · rcases key k hk hek with ⟨hk0, a', b'⟩ | ⟨ek, a', b', _⟩
      · rw [b, b']
        exact fun e => clash _ (hn.iss k hk0 a') a e.symm
      · omega
end

end Go.Proofs.Ytjnmpejcegmkhab

namespace Go.Proofs.Ytjnmpejcegmkhab
open Go.RowKit

theorem leaf_ev (l : Hist) (m : Int) (its : List Int) (iv : Value) : formH ((⟨2, m, 0, its⟩, iv) :: l) = 2 ∧ putsH ((⟨2, m, 0, its⟩, iv) :: l) = m := by
  constructor
  · simp [formH]
  · simp [putsH, fromH, manyH]

section
variable {c : Conf} {L : Lay} {P : PLay} {i v : Nat} {p : Pr} {n : PN}

theorem Here.iss17 (h : Here c L P i v p n) (hr : CRel c L P) (hc : c.kind = 0) (draw : Int) (h17 : p.phase = 17) {x : Int} (hx : Iss L x) : Iss (lstep L i draw) x := by
  have ck := hr.ck
  have tg := h.target17 ck h17
  have hkid := tg.kid
  have h1v := h.v1
  have hv := h.vN
  have hv32 := h.v32
  have hcL := h.rel.cL
  have hkd := hr.ck.ci.cq i h.hi
  rw [h.ep] at hkd
  have hk3 : 3 ≤ p.kind := Int.not_lt.1 fun x => hkd.kp.walk x (by omega)
  obtain ⟨k1, k2, k3, k4, _, _⟩ := rank_kid ⟨v, hv32⟩ h1v
  simp only at k1 k2 k3 k4
  obtain ⟨u, t, u1, hu, hf, rfl, ht⟩ := hx
  rw [h.lat draw, h.lget]
  simp only
  rw [if_neg (by omega), if_neg (by omega), if_neg (by omega), if_neg (by omega), if_neg (by omega), if_neg (by omega), if_neg (by omega), if_pos h17]
  split
  · have hfv : formH (L.hist v) = 2 := by rw [tg.form, if_neg (by omega)]
    have hno : ∀ w, w / 2 = v → 2 ≤ w → w < L.past.length → formH (L.hist w) = 3 := by
      intro w hw h2 hwN
      by_cases f : formH (L.hist w) = 3
      · exact f
      · have := ck.ci.par w h2 hwN f
        rw [hw] at this
        omega
    have f0 := hno (2 * v) (by omega) (by omega) (by omega)
    have f1 := hno (2 * v + 1) (by omega) (by omega) hkid
    have hN : unfN (L.setP i (incPr p)) v = putsH (L.hist v) := by
      unfold unfN
      show (if L.c.kind = 0 then putsH (L.hist v) else _) = _
      rw [hcL, if_pos hc]
    generalize hL' : ((L.setP i (incPr p)).unfolded v nilV nilV nilV nilV nilV).setP i (upPr { incPr p with val := 1 }) = L'
    have hlen : L'.past.length = L.past.length := by rw [← hL']; simp
    have hst : ∀ w, w ≠ v → w ≠ 2 * v → w ≠ 2 * v + 1 → L'.hist w = L.hist w := by
      intro w a b d
      rw [← hL']
      show ((L.setP i (incPr p)).unfolded v nilV nilV nilV nilV nilV).hist w = L.hist w
      unfold Lay.unfolded
      rw [hap_hist _ _ _ _ _ _ (by simp; omega) d, hap_hist _ _ _ _ _ _ (by simp; omega) b, hap_hist _ _ _ _ _ _ (by exact hv) a]
      rfl
    have hs0 : ∃ its, L'.hist (2 * v) = (⟨2, (putsH (L.hist v) + 1) / 2, 0, its⟩, nilV) :: L.hist (2 * v) := by
      refine ⟨evT (itemsH (L.hist v)) (itemsH (L.hist v)).length, ?_⟩
      rw [← hL']
      show ((L.setP i (incPr p)).unfolded v nilV nilV nilV nilV nilV).hist (2 * v) = _
      unfold Lay.unfolded
      rw [hap_hist _ _ _ _ _ _ (by simp; omega) (by omega), hist_hap _ _ _ _ _ _ (by simp; omega), if_pos rfl, hap_hist _ _ _ _ _ _ (by exact hv) (by omega), hN]
      rfl
    have hs1 : ∃ its, L'.hist (2 * v + 1) = (⟨2, putsH (L.hist v) / 2, 0, its⟩, nilV) :: L.hist (2 * v + 1) := by
      refine ⟨odT (itemsH (L.hist v)) (itemsH (L.hist v)).length, ?_⟩
      rw [← hL']
      show ((L.setP i (incPr p)).unfolded v nilV nilV nilV nilV nilV).hist (2 * v + 1) = _
      unfold Lay.unfolded
      rw [hist_hap _ _ _ _ _ _ (by simp; omega), if_pos rfl, hap_hist _ _ _ _ _ _ (by simp; omega) (by omega), hap_hist _ _ _ _ _ _ (by exact hv) (by omega), hN]
      rfl
    obtain ⟨i0, hs0⟩ := hs0
    obtain ⟨i1, hs1⟩ := hs1
    by_cases eu : u = v
    · subst eu
      have l0 := leaf_ev (L.hist (2 * u)) ((putsH (L.hist u) + 1) / 2) i0 nilV
      have l1 := leaf_ev (L.hist (2 * u + 1)) (putsH (L.hist u) / 2) i1 nilV
      rw [← hs0] at l0
      rw [← hs1] at l1
      have hpw : (2 : Int) ^ (Nat.log2 u + 1) = 2 * 2 ^ Nat.log2 u := by rw [Int.pow_succ]; omega
      by_cases ev : t % 2 = 0
      · refine ⟨2 * u, t / 2, by omega, by omega, l0.1, ?_, by rw [l0.2]; omega⟩
        rw [k1, k3, hpw]
        have e : (t : Int) = 2 * ((t / 2 : Nat) : Int) := by omega
        rw [show (t : Int) * 2 ^ Nat.log2 u = (2 * ((t / 2 : Nat) : Int)) * 2 ^ Nat.log2 u by rw [← e]]
        rw [Int.mul_comm 2 ((t / 2 : Nat) : Int), Int.mul_assoc]
      · refine ⟨2 * u + 1, t / 2, by omega, by rw [hlen]; exact hkid, l1.1, ?_, by rw [l1.2]; omega⟩
        rw [k2, k4, hpw]
        have e : (t : Int) = 2 * ((t / 2 : Nat) : Int) + 1 := by omega
        rw [show (t : Int) * 2 ^ Nat.log2 u = (2 * ((t / 2 : Nat) : Int) + 1) * 2 ^ Nat.log2 u by rw [← e]]
        rw [Int.add_mul, Int.mul_comm 2 ((t / 2 : Nat) : Int), Int.mul_assoc]
        push_cast
        omega
    · have n0 : u ≠ 2 * v := fun e => by rw [e, f0] at hf; omega
      have n1 : u ≠ 2 * v + 1 := fun e => by rw [e, f1] at hf; omega
      have es := hst u eu n0 n1
      exact ⟨u, t, u1, by omega, by rw [es]; exact hf, rfl, by rw [es]; exact ht⟩
  · split
    · exact ⟨u, t, u1, hu, hf, rfl, ht⟩
    · rename_i hk4 hno
      have k3' : p.kind = 3 := by have := hkd.kinds; omega
      have hfv : formH (L.hist v) = 1 := by rw [tg.form, if_pos k3']
      obtain ⟨kk1, kk2, kk3⟩ := h.rel.kids v h1v hv hfv
      have r0 := (h.rel.nodes (2 * v) (by omega) (by omega)).form
      have r1 := (h.rel.nodes (2 * v + 1) (by omega) hkid).form
      have f0 : formH (L.hist (2 * v)) = 2 := by omega
      have f1 : formH (L.hist (2 * v + 1)) = 2 := by omega
      have c0 := h.bal_count ck tg hc _ (Or.inr (Or.inl rfl)) f0
      have c1 := h.bal_count ck tg hc _ (Or.inr (Or.inr rfl)) f1
      have htog : balH (L.hist (2 * v)) - balH (L.hist (2 * v + 1)) = togH (L.hist v) := by
        have hl := h.rel.lenle
        have e := ck.ci.even v h1v hv hfv
        rw [even_quiet hkid (by omega) h1v ?_ tg.even] at e
        · omega
        · intro w hw w0 w1 hs
          exact leaf_below (by omega) h.v32 h1v ck.ci.par (fun x => x = 2 * v ∨ x = 2 * v + 1) (Or.inr (fun x hx => by omega)) (fun x hx => by rcases hx with e | e <;> rw [e] <;> omega) w hw hs (by omega)
      have ht01 : togH (L.hist v) = 0 ∨ togH (L.hist v) = 1 := by unfold togH; omega
      have hN : foldN (L.setP i (incPr p)) v = putsH (L.hist (2 * v)) + putsH (L.hist (2 * v + 1)) := by
        unfold foldN
        show (if L.c.kind = 0 then putsH (L.hist (2 * v)) + putsH (L.hist (2 * v + 1)) else _) = _
        rw [hcL, if_pos hc]
      generalize hL' : ((L.setP i (incPr p)).folded v nilV nilV nilV nilV).setP i (upPr { incPr p with val := 1 }) = L'
      have hlen : L'.past.length = L.past.length := by rw [← hL']; simp
      have hst : ∀ w, w ≠ v → w ≠ 2 * v → w ≠ 2 * v + 1 → L'.hist w = L.hist w := by
        intro w a b d
        rw [← hL']
        show ((L.setP i (incPr p)).folded v nilV nilV nilV nilV).hist w = L.hist w
        unfold Lay.folded
        rw [hap_hist _ _ _ _ _ _ (by simp; omega) a, hap_hist _ _ _ _ _ _ (by simp; omega) d, hap_hist _ _ _ _ _ _ (by simp; omega) b]
        rfl
      have hsv : L'.hist v = (⟨2, putsH (L.hist (2 * v)) + putsH (L.hist (2 * v + 1)), 0, alt (itemsH (L.hist (2 * v))) (itemsH (L.hist (2 * v + 1)))⟩, nilV) :: L.hist v := by
        rw [← hL']
        show ((L.setP i (incPr p)).folded v nilV nilV nilV nilV).hist v = _
        unfold Lay.folded
        rw [hist_hap _ _ _ _ _ _ (by simp; omega), if_pos rfl, hap_hist _ _ _ _ _ _ (by simp; omega) (by omega), hap_hist _ _ _ _ _ _ (by simp; omega) (by omega), hN]
        rfl
      have lv := leaf_ev (L.hist v) (putsH (L.hist (2 * v)) + putsH (L.hist (2 * v + 1))) (alt (itemsH (L.hist (2 * v))) (itemsH (L.hist (2 * v + 1)))) nilV
      rw [← hsv] at lv
      have hpw : (2 : Int) ^ (Nat.log2 v + 1) = 2 * 2 ^ Nat.log2 v := by rw [Int.pow_succ]; omega
      by_cases e0 : u = 2 * v
      · subst e0
        refine ⟨v, 2 * t, h1v, by omega, lv.1, ?_, by rw [lv.2]; push_cast; omega⟩
        rw [k1, k3, hpw]
        push_cast
        rw [Int.mul_comm 2 (t : Int), Int.mul_assoc]
      · by_cases e1 : u = 2 * v + 1
        · subst e1
          refine ⟨v, 2 * t + 1, h1v, by omega, lv.1, ?_, by rw [lv.2]; push_cast; omega⟩
          rw [k2, k4, hpw]
          push_cast
          rw [Int.add_mul, Int.mul_comm 2 (t : Int), Int.mul_assoc]
          omega
        · have nv : u ≠ v := fun e => by rw [e, hfv] at hf; omega
          have es := hst u nv e0 e1
          exact ⟨u, t, u1, by omega, by rw [es]; exact hf, rfl, by rw [es]; exact ht⟩

theorem Here.num (h : Here c L P i v p n) (hr : CRel c L P) (hc : c.kind = 0) (draw : Int) (hm : MetOk L) (hn : NumOk L) : NumOk (lstep L i draw) := by
  by_cases h17 : p.phase = 17
  · obtain ⟨p', hw⟩ := h.went hr.ck draw
    have hlen := went_len hw
    have hkd := hr.ck.ci.cq i h.hi
    rw [h.ep] at hkd
    have hk3 : 3 ≤ p.kind := Int.not_lt.1 fun x => hkd.kp.walk x (by omega)
    have key : ∀ j, (hj : j < (lstep L i draw).procs.length) → endedI (toPP ((lstep L i draw).procs[j]).2) → ∃ hj0 : j < L.procs.length, endedI (toPP (L.procs[j]).2) ∧ ((lstep L i draw).procs[j]).2.val = (L.procs[j]).2.val := by
      intro j hj he
      have hj0 : j < L.procs.length := by omega
      by_cases e : j = i
      · subst e
        exfalso
        rw [went_self hw hj] at he
        have : p'.kind = 0 := he.1
        rw [hw.op.1] at this
        omega
      · have ho := went_other hw j hj0 hj e
        rw [ho] at he
        exact ⟨hj0, he, (pp_told ho).2.2.2.2.2.1⟩
    refine ⟨fun j hj he => ?_, fun j k hj hk hne hej hek => ?_⟩
    · obtain ⟨hj0, a, b⟩ := key j hj he
      rw [b]
      exact h.iss17 hr hc draw h17 (hn.iss j hj0 a)
    · obtain ⟨hj0, a, b⟩ := key j hj hej
      obtain ⟨hk0, a', b'⟩ := key k hk hek
      rw [b, b']
      exact hn.diff j k hj0 hk0 hne a a'
  · exact h.num_over hr hc draw hm hn h17
end

end Go.Proofs.Ytjnmpejcegmkhab

namespace Go.Proofs.Ytjnmpejcegmkhab
open Go.RowKit

theorem sumP_add (f g : Pr → Int) : ∀ ps : Ps, sumP (fun p => f p + g p) ps = sumP f ps + sumP g ps
  | [] => rfl
  | y :: r => by simp only [sumP]; rw [sumP_add f g r]; omega
theorem sumP_sub (f g : Pr → Int) : ∀ ps : Ps, sumP (fun p => f p - g p) ps = sumP f ps - sumP g ps
  | [] => rfl
  | y :: r => by simp only [sumP]; rw [sumP_sub f g r]; omega
theorem sumP_mono (f g : Pr → Int) : ∀ ps : Ps, (∀ i, (hi : i < ps.length) → f (ps[i]).2 ≤ g (ps[i]).2) → sumP f ps ≤ sumP g ps
  | [], _ => Int.le_refl _
  | y :: r, h => by
    have h0 := h 0 (by simp)
    simp only [List.getElem_cons_zero] at h0
    have := sumP_mono f g r fun i hi => by have := h (i + 1) (by simpa using hi); simpa using this
    simp only [sumP]
    omega

/-- What lies below u, or is on its way there. -/
def tkS (L : Lay) (u : Nat) : Int := sumP (fun p => if undB u p.node.toNat = true then tokP L.procs p else 0) L.procs
def allS (L : Lay) (u : Nat) : Int := subS L u + tkS L u
def ownS (L : Lay) (u : Nat) : Int := sumP (fun p => if p.node.toNat = u then tokP L.procs p else 0) L.procs

section
variable {c : Conf} {L : Lay} {P : PLay}

theorem tok_nonneg (h : CRel c L P) (hc : c.kind = 0) (i : Nat) (hi : i < L.procs.length) : 0 ≤ tokP L.procs (L.procs[i]).2 ∧ 0 ≤ sgn (L.procs[i]).2.kind := by
  have hk := (h.rel.qs i hi).kind
  have hs : 0 ≤ sgn (L.procs[i]).2.kind := by
    unfold sgn
    rw [if_neg (by omega)]
    split <;> omega
  refine ⟨?_, hs⟩
  unfold tokP
  split
  · split
    · omega
    · exact hs
  · omega

theorem all_split (h : CRel c L P) (hc : c.kind = 0) {u : Nat} (h1 : 1 ≤ u) (hu : u < L.past.length) (hf : formH (L.hist u) = 1) : 2 * allS L (2 * u) ≤ allS L u + 1 ∧ 2 * allS L (2 * u + 1) ≤ allS L u := by
  have hN := h.rel.lenle
  have hk := (h.rel.kids u h1 hu hf).1
  have e := h.ck.ci.even u h1 hu hf
  obtain ⟨a, b⟩ := sub_split (L := L) (by omega) h1 hk
  have hb : balH (L.hist u) = 0 := by unfold balH; rw [hf]; simp
  have hn32 : ∀ i, (hi : i < L.procs.length) → (L.procs[i]).2.node.toNat < 32 := by
    intro i hi
    by_cases h20 : (L.procs[i]).2.phase = 20
    · rw [(h.rel.qs i hi).done h20]; decide
    · obtain ⟨w, x1, x2, x3, _⟩ := (h.rel.qs i hi).live h20
      omega
  have t1 : tkS L u = ownS L u + (tkS L (2 * u) + tkS L (2 * u + 1)) := by
    unfold tkS ownS
    rw [← sumP_add, ← sumP_add]
    refine sumP_congr _ _ _ fun i hi => ?_
    obtain ⟨x1, x2, x3, x4⟩ := und_facts ⟨u, by omega⟩ ⟨(L.procs[i]).2.node.toNat, hn32 i hi⟩ h1
    simp only at x1 x2 x3 x4
    rw [x1]
    by_cases ew : (L.procs[i]).2.node.toNat = u
    · simp [ew, x3, x4]
    · simp only [ew, decide_false, Bool.false_or, if_false]
      cases y1 : undB (2 * u) (L.procs[i]).2.node.toNat <;> cases y2 : undB (2 * u + 1) (L.procs[i]).2.node.toNat
      · simp
      · simp
      · simp
      · exact absurd ⟨y1, y2⟩ x2
  have t2 : sumP (eP L.procs u) L.procs = tkS L (2 * u) - tkS L (2 * u + 1) + sumP (wcP L.procs u) L.procs := by
    unfold tkS
    rw [← sumP_sub, ← sumP_add]
    refine sumP_congr _ _ _ fun i hi => ?_
    obtain ⟨_, x2, _, _⟩ := und_facts ⟨u, by omega⟩ ⟨(L.procs[i]).2.node.toNat, hn32 i hi⟩ h1
    simp only at x2
    have es : side u (L.procs[i]).2.node.toNat = if undB (2 * u) (L.procs[i]).2.node.toNat = true then 1 else if undB (2 * u + 1) (L.procs[i]).2.node.toNat = true then -1 else 0 := by
      unfold side undB
      simp only [decide_eq_true_eq]
    unfold eP
    rw [es]
    cases y1 : undB (2 * u) (L.procs[i]).2.node.toNat <;> cases y2 : undB (2 * u + 1) (L.procs[i]).2.node.toNat
    · simp
    · simp
    · simp
    · exact absurd ⟨y1, y2⟩ x2
  have w1 : sumP (wcP L.procs u) L.procs ≤ ownS L u := by
    unfold ownS
    refine sumP_mono _ _ _ fun i hi => ?_
    have tn := tok_nonneg h hc i hi
    unfold wcP
    split
    · rename_i hx
      have hnu : (L.procs[i]).2.node.toNat = u := by omega
      rw [if_pos hnu]
      have hph : (L.procs[i]).2.phase = 6 ∨ (L.procs[i]).2.phase = 7 := by
        have := hx.2.1
        unfold metB at this
        simp only [Bool.and_eq_true, Bool.or_eq_true, decide_eq_true_eq] at this
        exact this.1
      have hme : 0 ≤ (L.procs[i]).2.met := by
        have := hx.2.1
        unfold metB at this
        simp only [Bool.and_eq_true, Bool.or_eq_true, decide_eq_true_eq] at this
        exact this.2
      rw [tokP_met hph hme, if_pos hx.2.2]
      exact Int.le_refl _
    · split
      · exact tn.1
      · exact Int.le_refl _
  have w0 : 0 ≤ sumP (wcP L.procs u) L.procs := by
    have := sumP_mono (fun _ => 0) (wcP L.procs u) L.procs fun i hi => by
      have tn := tok_nonneg h hc i hi
      unfold wcP
      split
      · exact tn.2
      · exact Int.le_refl _
    rw [sumP_zero (fun _ => 0) L.procs fun _ _ => rfl] at this
    exact this
  have ht : togH (L.hist u) = 0 ∨ togH (L.hist u) = 1 := by unfold togH; omega
  unfold evenS at e
  rw [t2, b] at e
  unfold allS
  rw [a, t1, hb]
  generalize sumP (wcP L.procs u) L.procs = W at *
  constructor <;> omega

/-- No part of a counter holds more than its share of what was begun. -/
theorem all_share (h : CRel c L P) (hc : c.kind = 0) : ∀ u, 1 ≤ u → u < L.past.length → formH (L.hist u) ≠ 3 → (allS L u - 1) * 2 ^ Nat.log2 u < allS L 1 - rank u := by
  have hN := h.rel.lenle
  intro u
  induction u using Nat.strongRecOn with
  | _ u ih =>
    intro h1 hu hf
    by_cases e1 : u = 1
    · subst e1
      obtain ⟨_, _, _, _, r1, l1⟩ := rank_kid ⟨1, by omega⟩ (by show 1 ≤ 1; omega)
      rw [r1, l1]
      simp
      omega
    · have hq := h.ck.ci.par u (by omega) hu hf
      have ia := ih (u / 2) (by omega) (by omega) (by omega) (by omega)
      obtain ⟨sa, sb⟩ := all_split h hc (u := u / 2) (by omega) (by omega) hq
      obtain ⟨k1, k2, k3, k4, _, _⟩ := rank_kid ⟨u / 2, by omega⟩ (by show 1 ≤ u / 2; omega)
      simp only at k1 k2 k3 k4
      have hl := log2_32 ⟨u / 2, by omega⟩
      simp only at hl
      generalize allS L 1 = T at *
      by_cases ev : u % 2 = 0
      · have eu : u = 2 * (u / 2) := by omega
        rw [eu, k1, k3, ← eu]
        have es : allS L (2 * (u / 2)) = allS L u := by rw [← eu]
        rw [es] at sa
        generalize allS L (u / 2) = sq at *
        generalize allS L u = su at *
        generalize rank (u / 2) = rk at *
        generalize Nat.log2 (u / 2) = d at *
        have : d = 0 ∨ d = 1 ∨ d = 2 ∨ d = 3 ∨ d = 4 := by omega
        rcases this with rfl | rfl | rfl | rfl | rfl <;> simp at ia ⊢ <;> omega
      · have eu : u = 2 * (u / 2) + 1 := by omega
        rw [eu, k2, k4, ← eu]
        have es : allS L (2 * (u / 2) + 1) = allS L u := by rw [← eu]
        rw [es] at sb
        generalize allS L (u / 2) = sq at *
        generalize allS L u = su at *
        generalize rank (u / 2) = rk at *
        generalize Nat.log2 (u / 2) = d at *
        have : d = 0 ∨ d = 1 ∨ d = 2 ∨ d = 3 ∨ d = 4 := by omega
        rcases this with rfl | rfl | rfl | rfl | rfl <;> simp at ia ⊢ <;> omega
end

end Go.Proofs.Ytjnmpejcegmkhab

namespace Go.Proofs.Ytjnmpejcegmkhab
open Go.RowKit

structure YOk (L : Lay) : Prop where
  met : MetOk L
  num : NumOk L

theorem YOk.step {c : Conf} {L : Lay} {P : PLay} (h : CRel c L P) (hc : c.kind = 0) (x : YOk L) {i : Nat} (hi : i < L.procs.length) (hl : (L.procs[i]).2.phase ≠ 20) (draw : Int) : YOk (lstep L i draw) := by
  obtain ⟨v, n, hh⟩ := h.rel.here hi hl
  exact ⟨hh.met h.ck hc draw x.met, hh.num h hc draw x.met x.num⟩

theorem YOk.spawn {c : Conf} {L : Lay} {P : PLay} (h : CRel c L P) (x : YOk L) (o : Op3) : YOk { L with procs := L.procs ++ [(0, newPr o)] } := by
  have hph : (newPr o).phase = 0 ∨ (newPr o).phase = 15 := by
    unfold newPr
    simp only
    split
    · exact Or.inr rfl
    · exact Or.inl rfl
  have get : ∀ i, (hi : i < (L.procs ++ [(0, newPr o)]).length) → (∃ hi0 : i < L.procs.length, (L.procs ++ [(0, newPr o)])[i] = L.procs[i]) ∨ ((L.procs ++ [(0, newPr o)])[i]).2 = newPr o := by
    intro i hi
    by_cases e : i < L.procs.length
    · exact Or.inl ⟨e, List.getElem_append_left e⟩
    · right
      have hi' := hi
      simp only [List.length_append, List.length_cons, List.length_nil] at hi'
      have e' : i = L.procs.length := by omega
      subst e'
      simp
  have nend : ¬ endedI (toPP (newPr o)) := by
    rintro ⟨_, a⟩
    have a' : (newPr o).phase = 19 ∨ (newPr o).phase = 20 := a
    omega
  refine ⟨fun i hi => ?_, ⟨fun i hi he => ?_, fun i j hi hj hne hei hej => ?_⟩⟩
  · rcases get i hi with ⟨hi0, e⟩ | e
    · show MetQ (L.procs ++ [(0, newPr o)]) ((L.procs ++ [(0, newPr o)])[i]).2
      rw [e]
      have hq := x.met i hi0
      refine ⟨fun a b => ?_, hq.2⟩
      have hlt : (L.procs[i]).2.met.toNat < L.procs.length := by
        obtain ⟨v, n, hh⟩ := h.rel.here hi0 (by omega)
        obtain ⟨k, hk, hs⟩ := hh.slotk
        obtain ⟨_, hx⟩ := hh.mine a hk hs (hh.inner (by omega) (by omega))
        rcases hx with ⟨_, _, e⟩ | ⟨_, b, _, e, hb, _⟩
        · omega
        · omega
      rw [kindAt_app hlt]
      exact hq.1 a b
    · show MetQ (L.procs ++ [(0, newPr o)]) ((L.procs ++ [(0, newPr o)])[i]).2
      rw [e]
      exact ⟨fun a => by omega, fun _ => by omega⟩
  · rcases get i hi with ⟨hi0, e⟩ | e
    · show Iss L ((L.procs ++ [(0, newPr o)])[i]).2.val
      have he' : endedI (toPP ((L.procs ++ [(0, newPr o)])[i]).2) := he
      rw [e] at he' ⊢
      exact x.num.iss i hi0 he'
    · have he' : endedI (toPP ((L.procs ++ [(0, newPr o)])[i]).2) := he
      rw [e] at he'
      exact absurd he' nend
  · have hei' : endedI (toPP ((L.procs ++ [(0, newPr o)])[i]).2) := hei
    have hej' : endedI (toPP ((L.procs ++ [(0, newPr o)])[j]).2) := hej
    show ((L.procs ++ [(0, newPr o)])[i]).2.val ≠ ((L.procs ++ [(0, newPr o)])[j]).2.val
    rcases get i hi with ⟨hi0, e⟩ | e
    · rcases get j hj with ⟨hj0, e'⟩ | e'
      · rw [e] at hei' ⊢
        rw [e'] at hej' ⊢
        exact x.num.diff i j hi0 hj0 hne hei' hej'
      · rw [e'] at hej'
        exact absurd hej' nend
    · rw [e] at hei'
      exact absurd hei' nend

theorem YOk.new (c : Conf) : YOk (newLay c) := ⟨fun _ hi => absurd hi (Nat.not_lt_zero _), ⟨fun _ hi => absurd hi (Nat.not_lt_zero _), fun _ _ hi => absurd hi (Nat.not_lt_zero _)⟩⟩

end Go.Proofs.Ytjnmpejcegmkhab

namespace Go.Proofs.Ytjnmpejcegmkhab
open Go.RowKit

end Go.Proofs.Ytjnmpejcegmkhab

namespace Go.Proofs.Ytjnmpejcegmkhab
open Go.RowKit

theorem phi_up2 {c : Conf} {L : Lay} {P : PLay} (h : CRel c L P) (pk : PatOk c L) {i : Nat} (hi : i < L.procs.length) : ((L.procs[i]).2.phase ≠ 20 → 1 ≤ phi c (toPPs L.procs) (toPP (L.procs[i]).2)) ∧ phi c (toPPs L.procs) (toPP (L.procs[i]).2) ≤ calmR c := by
  have hcf := h.rel.confs
  have hd0 := h.rel.drain0
  obtain ⟨a1, a2, a3⟩ := sum_hold hd0.1 L.procs pk
  have a3i := a3 i hi
  have hfull := h.rel.full
  obtain ⟨h1, h2, h3⟩ := hold_range c.drain (L.procs[i]).2.kind (L.procs[i]).2.phase (L.procs[i]).2.pat hd0.1 (pk i hi).2
  have e1 : holdQ c (toPP (L.procs[i]).2) = holdW c.drain (L.procs[i]).2.kind (L.procs[i]).2.phase (L.procs[i]).2.pat := rfl
  rw [e1] at a3i
  have hmul : (liveL L.procs : Int) * (c.drain + 6) ≤ c.procs * (c.drain + 6) := Int.mul_le_mul_of_nonneg_right hfull (by omega)
  have hcalm : calmR c = c.procs * (c.drain + 6) + 2 * c.procs + (c.drain + 8) + (c.depth + 1) * (c.spin + 12) := by
    unfold calmR
    have : (c.procs + 1) * (c.drain + 8) = c.procs * (c.drain + 6) + 2 * c.procs + (c.drain + 8) := by
      rw [Int.add_mul, Int.one_mul]
      have : c.drain + 8 = (c.drain + 6) + 2 := by omega
      rw [this, Int.mul_add]
      omega
    omega
  by_cases h20 : (L.procs[i]).2.phase = 20
  · have ew : workQ c (shQ (toPP (L.procs[i]).2).node (toPPs L.procs)) (toPP (L.procs[i]).2) = 0 := by
      unfold workQ
      show work _ _ _ _ _ (L.procs[i]).2.phase _ _ = 0
      rw [h20]
      simp [work]
    have hD0 : 0 ≤ (c.depth + 1) * (c.spin + 12) := Int.mul_nonneg (by omega) (by omega)
    refine ⟨fun na => absurd h20 na, ?_⟩
    unfold Go.Proofs.Ytjnmpejcegmkhab.phi
    rw [ew, e1, hcalm]
    omega
  · obtain ⟨v, n, hh⟩ := h.rel.here hi h20
    have hph := hh.q.phase
    have hdv : dQ (toPP (L.procs[i]).2) = Nat.log2 v := by
      unfold dQ
      show Nat.log2 (L.procs[i]).2.node.toNat = _
      rw [hh.at', Int.toNat_natCast]
    have hvD : v < 2 ^ (c.depth.toNat + 1) := by rw [← h.rel.len]; exact hh.vN
    have hd : dQ (toPP (L.procs[i]).2) ≤ c.depth.toNat := by
      rw [hdv]
      have := (Nat.log2_lt (show v ≠ 0 by have := hh.v1; omega)).2 hvD
      omega
    have hin : 3 ≤ (L.procs[i]).2.phase → (L.procs[i]).2.phase ≤ 11 → dQ (toPP (L.procs[i]).2) < c.depth.toNat := by
      intro a b
      have hf := hh.q.inner a b
      rw [hh.at', Int.toNat_natCast] at hf
      have hk := (h.rel.kids v hh.v1 hh.vN hf).1
      rw [h.rel.len] at hk
      have h2 := (Nat.log2_lt (show 2 * v + 1 ≠ 0 by omega)).2 hk
      have h3 := (log2_kid ⟨v, hh.v32⟩ hh.v1).2
      simp only at h3
      omega
    obtain ⟨w1, w2⟩ := work_range (D := c.depth.toNat) (by omega) (s := c.spin) (r := c.drain) (by omega) hd0.1 (shQ (toPP (L.procs[i]).2).node (toPPs L.procs)) (L.procs[i]).2.kind (L.procs[i]).2.phase (L.procs[i]).2.pat (dQ (toPP (L.procs[i]).2)) hd (pk i hi).1 (pk i hi).2 hin (by omega)
    have ew : workQ c (shQ (toPP (L.procs[i]).2).node (toPPs L.procs)) (toPP (L.procs[i]).2) = work c.depth.toNat c.spin c.drain (shQ (toPP (L.procs[i]).2).node (toPPs L.procs)) (L.procs[i]).2.kind (L.procs[i]).2.phase (L.procs[i]).2.pat (dQ (toPP (L.procs[i]).2)) := rfl
    have eD : ((c.depth.toNat : Int) + 1) * (c.spin + 12) = (c.depth + 1) * (c.spin + 12) := by rw [Int.toNat_of_nonneg (by omega)]
    rw [eD] at w2
    unfold Go.Proofs.Ytjnmpejcegmkhab.phi
    rw [ew, e1, hcalm]
    exact ⟨fun _ => by omega, by omega⟩

/-- What holds of a counter's tree. -/
structure ZOk (c : Conf) (L : Lay) : Prop where
  ck : c.kind = 0
  x : XOk c L
  y : YOk L
/-- In a counter nobody stands in Store or in Fetch. -/
theorem ZOk.still {c : Conf} {L : Lay} {P : PLay} (z : ZOk c L) (h : CRel c L P) {i : Nat} (hi : i < L.procs.length) (hl : (L.procs[i]).2.phase ≠ 20) : (toPP (L.procs[i]).2).phase ≠ 13 ∧ (toPP (L.procs[i]).2).phase ≠ 14 := by
  obtain ⟨v, q', hs, _⟩ := h.sq z.x.pat hi hl 0
  have hq := h.rel.qs i hi
  have hk := z.ck
  have e1 : (toPP (L.procs[i]).2).phase = (L.procs[i]).2.phase := rfl
  have e2 : (toPP (L.procs[i]).2).kind = (L.procs[i]).2.kind := rfl
  have k2 := hs.ka.chg
  rw [e1]
  rw [e1, e2] at k2
  refine ⟨fun e => ?_, fun e => ?_⟩
  · have := (hq.tick.2.2 e).1
    omega
  · rcases hq.kind with ⟨_, x⟩ | ⟨x, _⟩ | x | x
    · exact (z.y.met i hi).2 x e
    · omega
    · have := k2 (by omega); omega
    · have := k2 (by omega); omega

end Go.Proofs.Ytjnmpejcegmkhab

namespace Go.Proofs.Ytjnmpejcegmkhab
open Go.RowKit

/-- A Fold or Unfold that has ended says how. -/
def CvOk (L : Lay) : Prop := ∀ j, (hj : j < L.procs.length) → 3 ≤ (L.procs[j]).2.kind → ((L.procs[j]).2.phase = 19 ∨ (L.procs[j]).2.phase = 20) → 1 ≤ (L.procs[j]).2.val ∧ (L.procs[j]).2.val ≤ 4

section
variable {c : Conf} {L : Lay} {P : PLay} {i v : Nat} {p : Pr} {n : PN}

theorem Here.cv (h : Here c L P i v p n) (ck : CK c L P) (draw : Int) (hc : CvOk L) : CvOk (lstep L i draw) := by
  obtain ⟨p', hw⟩ := h.went ck draw
  have hi := h.hi
  have hep := h.ep
  have hlen := went_len hw
  have hpr := hw.procs
  have hil : i < (toPPs L.procs).length := by rw [toPPs_len]; exact hi
  have hcq := ck.ci.cq i hi
  rw [hep] at hcq
  have hkp := hcq.kp
  have hc0 := hc i hi
  rw [hep] at hc0
  have told : ∀ q : Pr, (toPPs L.procs).set i (toPP q) = (toPPs L.procs).set i (toPP p') → q.phase = p'.phase ∧ q.val = p'.val := by
    intro q e
    have := pp_told (toPPs_setP_get hil e)
    exact ⟨this.2.2.2.1, this.2.2.2.2.2.1⟩
  have upv : ∀ q : Pr, (upPr q).val = q.val := fun _ => rfl
  have key : 3 ≤ p.kind → (p'.phase = 19 ∨ p'.phase = 20) → 1 ≤ p'.val ∧ p'.val ≤ 4 := by
    intro k3 hp
    have hch := hkp.chg k3
    have hl := h.live
    have hph := h.q.phase
    have e2 : ∀ q : Pr, toPPs ((L.setP i (incPr p)).setP i q).procs = (toPPs L.procs).set i (toPP q) := by
      intro q
      rw [toPPs_setP, toPPs_setP, List.set_set]
    rw [h.lat draw, h.lget] at hpr
    simp only at hpr
    rw [if_neg (by omega), if_neg (by omega), if_neg (by omega), if_neg (by omega), if_neg (by omega), if_neg (by omega), if_neg (by omega)] at hpr
    by_cases e17 : p.phase = 17
    · rw [if_pos e17] at hpr
      split at hpr
      · have e3 : toPPs (((L.setP i (incPr p)).unfolded v nilV nilV nilV nilV nilV).setP i (upPr { incPr p with val := 1 })).procs = (toPPs L.procs).set i (toPP (upPr { incPr p with val := 1 })) := by
          rw [toPPs_setP]
          show (toPPs (L.setP i (incPr p)).procs).set i _ = _
          rw [toPPs_setP, List.set_set]
        rw [e3] at hpr
        have := (told _ hpr).2
        rw [upv] at this
        have : (1 : Int) = p'.val := this
        omega
      · split at hpr
        · rw [e2] at hpr
          have := (told _ hpr).2
          rw [upv] at this
          have : (4 : Int) = p'.val := this
          omega
        · have e3 : toPPs (((L.setP i (incPr p)).folded v nilV nilV nilV nilV).setP i (upPr { incPr p with val := 1 })).procs = (toPPs L.procs).set i (toPP (upPr { incPr p with val := 1 })) := by
            rw [toPPs_setP]
            show (toPPs (L.setP i (incPr p)).procs).set i _ = _
            rw [toPPs_setP, List.set_set]
          rw [e3] at hpr
          have := (told _ hpr).2
          rw [upv] at this
          have : (1 : Int) = p'.val := this
          omega
    · rw [if_neg e17, e2] at hpr
      obtain ⟨t1, t2⟩ := told _ hpr
      rw [← t1] at hp
      rw [← t2]
      revert hp
      clear t1 t2 hpr
      unfold lmove
      have ein : (incPr p).phase = p.phase := rfl
      rw [ein]
      by_cases e0 : p.phase = 0
      · rw [if_pos e0]
        intro hp
        have : (1 : Int) = 19 ∨ (1 : Int) = 20 := hp
        omega
      rw [if_neg e0]
      by_cases e1 : p.phase = 1
      · rw [if_pos e1]
        split
        · intro hp
          have : (2 : Int) = 19 ∨ (2 : Int) = 20 := hp
          omega
        · rw [if_neg (show ¬ (incPr p).kind < 3 by show ¬ p.kind < 3; omega)]
          split
          · intro hp
            have hp' : (if towards 6 (incPr p).onode.toNat v = (incPr p).onode.toNat then (15 : Int) else 0) = 19 ∨ (if towards 6 (incPr p).onode.toNat v = (incPr p).onode.toNat then (15 : Int) else 0) = 20 := hp
            split at hp' <;> omega
          · intro _
            show (1 : Int) ≤ 2 ∧ (2 : Int) ≤ 4
            decide
      rw [if_neg e1]
      by_cases e2' : p.phase = 2
      · rw [if_pos e2']
        intro hp
        have : (0 : Int) = 19 ∨ (0 : Int) = 20 := hp
        omega
      rw [if_neg e2', if_neg (by omega), if_neg (by omega), if_neg (by omega), if_neg (by omega), if_neg (by omega)]
      by_cases e15 : p.phase = 15
      · rw [if_pos e15]
        unfold shutCh
        split
        · intro _
          show (1 : Int) ≤ 2 ∧ (2 : Int) ≤ 4
          decide
        · intro hp
          have : (16 : Int) = 19 ∨ (16 : Int) = 20 := hp
          omega
      rw [if_neg e15]
      by_cases e16 : p.phase = 16
      · rw [if_pos e16]
        unfold drainCh
        split
        · intro hp
          have : (17 : Int) = 19 ∨ (17 : Int) = 20 := hp
          omega
        · split
          · intro hp
            have : p.phase = 19 ∨ p.phase = 20 := hp
            omega
          · intro hp
            have : (18 : Int) = 19 ∨ (18 : Int) = 20 := hp
            omega
      rw [if_neg e16]
      by_cases e18 : p.phase = 18
      · rw [if_pos e18]
        intro _
        show (1 : Int) ≤ 3 ∧ (3 : Int) ≤ 4
        decide
      rw [if_neg e18]
      have e19 : p.phase = 19 := by omega
      rw [if_pos e19]
      intro _
      exact hc0 k3 (Or.inl e19)
  intro j hj
  have hj0 : j < L.procs.length := by omega
  by_cases e : j = i
  · subst e
    have e1 : (toPPs (lstep L j draw).procs)[j]? = some (toPP p') := by rw [hpr, List.getElem?_set_self hil]
    have e2 : (toPPs (lstep L j draw).procs)[j]? = some (toPP ((lstep L j draw).procs[j]).2) := by simp [toPPs, hj]
    rw [e2] at e1
    have ht := pp_told (Option.some.inj e1)
    rw [ht.1, ht.2.2.2.1, ht.2.2.2.2.2.1, hw.op.1]
    exact key
  · have e1 : (toPPs (lstep L i draw).procs)[j]? = (toPPs L.procs)[j]? := by rw [hpr, List.getElem?_set_ne (Ne.symm e)]
    have e2 : (toPPs (lstep L i draw).procs)[j]? = some (toPP ((lstep L i draw).procs[j]).2) := by simp [toPPs, hj]
    have e3 : (toPPs L.procs)[j]? = some (toPP (L.procs[j]).2) := by simp [toPPs, hj0]
    rw [e2, e3] at e1
    have ht := pp_told (Option.some.inj e1)
    rw [ht.1, ht.2.2.2.1, ht.2.2.2.2.2.1]
    exact hc j hj0
end

theorem CvOk.spawn {L : Lay} (x : CvOk L) (o : Op3) : CvOk { L with procs := L.procs ++ [(0, newPr o)] } := by
  have hph : (newPr o).phase = 0 ∨ (newPr o).phase = 15 := by
    unfold newPr
    simp only
    split
    · exact Or.inr rfl
    · exact Or.inl rfl
  intro j hj
  have hj0 : j < (L.procs ++ [(0, newPr o)]).length := hj
  show 3 ≤ ((L.procs ++ [(0, newPr o)])[j]).2.kind → (((L.procs ++ [(0, newPr o)])[j]).2.phase = 19 ∨ ((L.procs ++ [(0, newPr o)])[j]).2.phase = 20) → 1 ≤ ((L.procs ++ [(0, newPr o)])[j]).2.val ∧ ((L.procs ++ [(0, newPr o)])[j]).2.val ≤ 4
  by_cases e : j < L.procs.length
  · rw [List.getElem_append_left e]
    exact x j e
  · simp only [List.length_append, List.length_cons, List.length_nil] at hj0
    have e' : j = L.procs.length := by omega
    subst e'
    simp only [List.getElem_concat_length]
    intro _ z
    omega

/-- What holds of a tree, counter or pool. -/
structure AOk (c : Conf) (L : Lay) : Prop where
  x : XOk c L
  cv : CvOk L
  y : c.kind = 0 → YOk L
  kd : c.kind = 1 → VOk L
  tk : c.kind = 1 → TkOk L
  rm : c.kind = 1 → RmOk c L
theorem AOk.step {c : Conf} {L : Lay} {P : PLay} (h : CRel c L P) (z : AOk c L) {i : Nat} (hi : i < L.procs.length) (hl : (L.procs[i]).2.phase ≠ 20) (draw : Int) : AOk c (lstep L i draw) := by
  obtain ⟨v, n, hh⟩ := h.rel.here hi hl
  exact ⟨XOk.step h z.x hi hl draw, hh.cv h.ck draw z.cv, fun e => YOk.step h e (z.y e) hi hl draw, fun e => VOk.step h e (z.kd e) hi hl draw, fun e => TkOk.step h e (z.tk e) hi hl draw, fun e => RmOk.step h e (z.tk e) (z.rm e) hi hl draw⟩
theorem AOk.new (c : Conf) : AOk c (newLay c) := ⟨XOk.new c, fun _ hj => absurd hj (Nat.not_lt_zero _), fun _ => YOk.new c, fun _ => VOk.new c, fun _ => TkOk.new c, fun _ => RmOk.new c⟩
theorem AOk.spawn {c : Conf} {L : Lay} {P : PLay} (h : CRel c L P) (z : AOk c L) (o : Op3) : AOk c { L with procs := L.procs ++ [(0, newPr o)] } :=
  ⟨XOk.spawn h z.x o, z.cv.spawn o, fun e => YOk.spawn h (z.y e) o, fun e => VOk.spawn h (z.kd e) o, fun e => (z.tk e).spawn o, fun e => z.rm e⟩
end Go.Proofs.Ytjnmpejcegmkhab

namespace Go.Proofs.Ytjnmpejcegmkhab
open Go.RowKit

/-- Behind the last. -/
structure FR (c : Conf) (L : Lay) : Prop where
  c0 : c.kind = 0 → ∀ i, (hi : i < L.procs.length) → (L.procs[i]).2.phase = 20
  c1 : c.kind = 1 → FinOk c L

theorem FR.none {c : Conf} {L : Lay} (h : ∀ i, (hi : i < L.procs.length) → (L.procs[i]).2.phase = 20) : FR c L := by
  refine ⟨fun _ => h, fun _ j hj => Or.inl ?_⟩
  have hj0 : j < L.procs.length := by rw [toPPs_len] at hj; exact hj
  rw [toPPs_at _ _ hj0]
  exact h j hj0

end Go.Proofs.Ytjnmpejcegmkhab
