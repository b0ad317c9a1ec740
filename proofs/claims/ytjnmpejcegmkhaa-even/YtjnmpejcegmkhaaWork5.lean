/- How long a process may still be on its way (P15): the bound itself, and the steps of the document's tree. No statement of the seat is proved here. -/
import Derived.Test.YtjnmpejcegmkhaaWork4
namespace Go.Proofs.Ytjnmpejcegmkhaa
open Go.RowKit

theorem PM.to6 {v : Nat} {a b nd : Int} (h : PM v a b nd) (hb : b = 6) : a = 5 ∨ a = 6 := by
  cases h <;> omega
theorem PM.to16 {v : Nat} {a b nd : Int} (h : PM v a b nd) (hb : b = 16) : a = 15 ∨ a = 16 := by
  cases h <;> omega

/-- P15's rounds. -/
def calmR (c : Conf) : Int := (c.procs + 1) * (c.drain + 8) + (c.depth + 1) * (c.spin + 12)

def PatQ (c : Conf) (q : PP) : Prop := (q.phase = 6 → 0 ≤ q.pat ∧ q.pat ≤ c.spin) ∧ (q.phase = 16 → 0 ≤ q.pat ∧ q.pat ≤ c.drain)
def PatOk (c : Conf) (L : Lay) : Prop := ∀ i, (hi : i < L.procs.length) → PatQ c (toPP (L.procs[i]).2)

theorem WRel.drain0 {c : Conf} {L : Lay} {P : PLay} (h : WRel c L P) : 0 ≤ c.drain ∧ c.drain ≤ 16 := by
  have := h.may
  simp [mayC] at this
  omega

theorem CQ.kp {c : Conf} {H : Nat → Hist} {p : Pr} (h : CQ c H p) : KP p.kind p.phase :=
  ⟨h.walk, fun hk => by
    rcases (h.chg hk).2.2 with x | x | x | x
    · omega
    · omega
    · omega
    · omega⟩

theorem CRel.sq {c : Conf} {L : Lay} {P : PLay} (h : CRel c L P) (pk : PatOk c L) {i : Nat} (hi : i < L.procs.length) (hl : (L.procs[i]).2.phase ≠ 20) (draw : Int) :
    ∃ v q', SQ c (toPPs L.procs) i v (toPP (L.procs[i]).2) q' ∧ toPPs (lstep L i draw).procs = (toPPs L.procs).set i q' ∧ PatOk c (lstep L i draw) ∧ (∃ P', CRel c (lstep L i draw) P') := by
  obtain ⟨v, n, hh⟩ := h.rel.here hi hl
  obtain ⟨p', hw, hf⟩ := hh.facts h.ck draw
  obtain ⟨⟨P', hr'⟩, _⟩ := h.again hi hl draw
  have hlen := went_len hw
  have hi' : i < (lstep L i draw).procs.length := by omega
  have hself := went_self hw hi'
  obtain ⟨s1, s2, s3, s4, s5, s6, s7⟩ := pp_told hself
  have hpat : ((lstep L i draw).procs[i]).2.pat = p'.pat := by
    have := hself
    unfold toPP at this
    simp only [PP.mk.injEq] at this
    exact this.2.2.2.2.2.2.2.2.2.1
  have hlenp := h.rel.len
  have hd0 := h.rel.drain0
  have hcf := h.rel.confs
  have hpk := pk i hi
  refine ⟨v, toPP p', ?_, hw.procs, ?_, P', hr'⟩
  · have hq' := hr'.rel.qs i hi'
    have hcq' := (hr'.ck.ci.cq i hi').kp
    rw [s4, s1] at hcq'
    have hcq := (h.ck.ci.cq i hi).kp
    refine ⟨by rw [toPPs_len]; exact hi, toPPs_at _ _ hi _, hh.at', hh.v1, hh.v32, by rw [← hlenp]; exact hh.vN, hw.op.1, hw.pm, hcq, ?_, fun a b => ?_, fun h20 => ?_, ?_, fun a => ⟨(hpk.1 a).1, fun b => (hf.wait a b).1⟩, hf.claim, hf.shut, fun a => ⟨(hpk.2 a).1, fun b => (hf.drain a b).1⟩, by omega, hd0.1⟩
    · have := hcq'
      rw [hw.op.1] at this
      exact this
    · have := hh.q.inner a b
      rw [hh.at', Int.toNat_natCast] at this
      rw [← hlenp]
      exact (h.rel.kids v hh.v1 hh.vN this).1
    · obtain ⟨u, a, b, d, _⟩ := hq'.live (by rw [s4]; exact h20)
      exact ⟨u, by rw [← a, s5]; rfl, b, by rw [← hr'.rel.len]; exact d⟩
    · intro a
      rw [shQ_pps]
      exact hf.look a
  · intro j hj
    by_cases e : j = i
    · subst e
      rw [hself]
      refine ⟨fun a => ?_, fun a => ?_⟩
      · have a' : p'.phase = 6 := a
        show 0 ≤ p'.pat ∧ p'.pat ≤ c.spin
        have hpm := hw.pm
        have : (L.procs[j]).2.phase = 5 ∨ (L.procs[j]).2.phase = 6 := by
          exact hpm.to6 a'
        rcases this with x | x
        · have := hf.claim x a'
          omega
        · have h1 := hf.wait x a'
          have h2 : (L.procs[j]).2.pat ≤ c.spin := (hpk.1 x).2
          omega
      · have a' : p'.phase = 16 := a
        show 0 ≤ p'.pat ∧ p'.pat ≤ c.drain
        have hpm := hw.pm
        have : (L.procs[j]).2.phase = 15 ∨ (L.procs[j]).2.phase = 16 := by
          exact hpm.to16 a'
        rcases this with x | x
        · have := hf.shut x a'
          omega
        · have h1 := hf.drain x a'
          have h2 : (L.procs[j]).2.pat ≤ c.drain := (hpk.2 x).2
          omega
    · have hj0 : j < L.procs.length := by omega
      rw [went_other hw j hj0 hj e]
      exact pk j hj0

theorem hold_range (r k ph pat : Int) (hr : 0 ≤ r) (hp : ph = 16 → 0 ≤ pat ∧ pat ≤ r) : 0 ≤ holdW r k ph pat ∧ holdW r k ph pat ≤ r + 6 ∧ (ph = 20 → holdW r k ph pat = 0) := by
  unfold holdW
  by_cases h16 : ph = 16
  · have := hp h16
    rw [if_pos h16]
    omega
  · rw [if_neg h16]
    split
    · omega
    · split
      · omega
      · split
        · omega
        · split <;> omega

theorem sum_hold {c : Conf} (hr : 0 ≤ c.drain) : ∀ ps : Prs, (∀ i, (hi : i < ps.length) → PatQ c (toPP (ps[i]).2)) → 0 ≤ sumQ (holdQ c) (toPPs ps) ∧ sumQ (holdQ c) (toPPs ps) ≤ (liveL ps : Int) * (c.drain + 6) ∧ ∀ i, (hi : i < ps.length) → holdQ c (toPP (ps[i]).2) ≤ sumQ (holdQ c) (toPPs ps)
  | [], _ => by simp [toPPs, sumQ, liveL]
  | x :: r, h => by
    obtain ⟨a, b, d⟩ := sum_hold hr r (fun i hi => by have := h (i + 1) (by simpa using hi); simpa using this)
    have h0 := h 0 (by simp)
    simp only [List.getElem_cons_zero] at h0
    obtain ⟨h1, h2, h3⟩ := hold_range c.drain x.2.kind x.2.phase x.2.pat hr h0.2
    have e : sumQ (holdQ c) (toPPs (x :: r)) = holdW c.drain x.2.kind x.2.phase x.2.pat + sumQ (holdQ c) (toPPs r) := rfl
    rw [e]
    refine ⟨by omega, ?_, fun i hi => ?_⟩
    · simp only [liveL]
      by_cases e20 : x.2.phase = 20
      · rw [if_pos e20, h3 e20]
        simpa using b
      · rw [if_neg e20]
        have : ((1 + liveL r : Nat) : Int) * (c.drain + 6) = (c.drain + 6) + (liveL r : Int) * (c.drain + 6) := by push_cast; rw [Int.add_mul]; omega
        rw [this]
        omega
    · cases i with
      | zero =>
        show holdW c.drain x.2.kind x.2.phase x.2.pat ≤ _
        omega
      | succ i =>
        have := d i (by simpa using hi)
        simp only [List.getElem_cons_succ]
        omega

theorem AA_le (D : Nat) (s : Int) (hs : 0 ≤ s) : ∀ k, k ≤ D → AA D s k ≤ AA D s D := by
  have step : ∀ m k, AA D s k ≤ AA D s (k + m) := by
    intro m
    induction m with
    | zero => intro k; exact Int.le_refl _
    | succ m ih => intro k; have := ih k; show AA D s k ≤ AA D s (k + m) + s + 8; omega
  intro k hk
  have := step (D - k) k
  rwa [show k + (D - k) = D by omega] at this
theorem AA_top (s : Int) (D : Nat) (hD : D ≤ 4) : AA D s D + 1 ≤ ((D : Int) + 1) * (s + 12) + 8 ∨ s < 0 := by
  have : D = 0 ∨ D = 1 ∨ D = 2 ∨ D = 3 ∨ D = 4 := by omega
  rcases this with rfl | rfl | rfl | rfl | rfl <;> simp [AA] <;> omega

theorem work_range {D : Nat} (hD : D ≤ 4) {s r : Int} (hs : 0 ≤ s) (hr : 0 ≤ r) (sh : Bool) (k ph pat : Int) (d : Nat) (hd : d ≤ D) (h6 : ph = 6 → 0 ≤ pat ∧ pat ≤ s) (h16 : ph = 16 → 0 ≤ pat ∧ pat ≤ r) (hin : 3 ≤ ph → ph ≤ 11 → d < D) (h0 : 0 ≤ ph ∧ ph ≤ 19) :
    1 ≤ work D s r sh k ph pat d ∧ work D s r sh k ph pat d ≤ ((D : Int) + 1) * (s + 12) + (r + 8) := by
  have g0 := AA_ge D s hs (D - d)
  have g1 := AA_ge D s hs (D - (d + 1))
  have l0 := AA_le D s hs (D - d) (by omega)
  have gd := AA_down D s (d := d)
  have gt := AA_top s D hD
  have hb : (D : Int) + 6 ≤ ((D : Int) + 1) * (s + 12) ∧ 3 * (D : Int) ≤ ((D : Int) + 1) * (s + 12) := by
    have : D = 0 ∨ D = 1 ∨ D = 2 ∨ D = 3 ∨ D = 4 := by omega
    rcases this with rfl | rfl | rfl | rfl | rfl <;> simp <;> omega
  generalize ((D : Int) + 1) * (s + 12) = T at *
  generalize AA D s D = AT at *
  have hbase : (D : Int) + 5 ≤ baseW D s r k d ∧ baseW D s r k d + 1 ≤ T + (r + 8) := by
    unfold baseW
    split <;> omega
  have hx : ph = 0 ∨ ph = 1 ∨ ph = 2 ∨ ph = 3 ∨ ph = 4 ∨ ph = 5 ∨ ph = 6 ∨ ph = 7 ∨ ph = 8 ∨ ph = 9 ∨ ph = 10 ∨ ph = 11 ∨ ph = 12 ∨ ph = 13 ∨ ph = 14 ∨ ph = 15 ∨ ph = 16 ∨ ph = 17 ∨ ph = 18 ∨ ph = 19 := by omega
  replace h6 : Hid _ := h6
  replace h16 : Hid _ := h16
  replace hin : Hid _ := hin
  replace gd : Hid _ := gd
  clear h0
  rcases hx with rfl | rfl | rfl | rfl | rfl | rfl | rfl | rfl | rfl | rfl | rfl | rfl | rfl | rfl | rfl | rfl | rfl | rfl | rfl | rfl
  · cases sh <;> simp [work] <;> omega
  · simp [work]; omega
  · cases sh <;> simp [work] <;> omega
  · simp [work]; omega
  · simp [work]; omega
  · simp [work]; omega
  · have := h6.out rfl
    have := gd.out (hin.out (by decide) (by decide))
    simp [work]; omega
  · have := gd.out (hin.out (by decide) (by decide))
    simp [work]; omega
  · have := gd.out (hin.out (by decide) (by decide))
    simp [work]; omega
  · have := gd.out (hin.out (by decide) (by decide))
    simp [work]; omega
  · have := gd.out (hin.out (by decide) (by decide))
    simp [work]; omega
  · have := gd.out (hin.out (by decide) (by decide))
    simp [work]; omega
  · simp [work]; omega
  · simp [work]; omega
  · simp [work]; omega
  · simp [work]; omega
  · have := h16.out rfl
    simp [work]; omega
  · simp [work]; omega
  · simp [work]; omega
  · simp [work]; omega

/-- The bound, and that it is above 0 for whoever has not arrived. -/
theorem CRel.phi {c : Conf} {L : Lay} {P : PLay} (h : CRel c L P) (pk : PatOk c L) {i : Nat} (hi : i < L.procs.length) : (¬ arrived (toPP (L.procs[i]).2) → 1 ≤ phi c (toPPs L.procs) (toPP (L.procs[i]).2)) ∧ phi c (toPPs L.procs) (toPP (L.procs[i]).2) ≤ calmR c := by
  have hcf := h.rel.confs
  have hd0 := h.rel.drain0
  obtain ⟨a1, a2, a3⟩ := sum_hold hd0.1 L.procs pk
  have a3i := a3 i hi
  have hfull := h.rel.full
  obtain ⟨h1, h2, h3⟩ := hold_range c.drain (L.procs[i]).2.kind (L.procs[i]).2.phase (L.procs[i]).2.pat hd0.1 (pk i hi).2
  have e1 : holdQ c (toPP (L.procs[i]).2) = holdW c.drain (L.procs[i]).2.kind (L.procs[i]).2.phase (L.procs[i]).2.pat := rfl
  rw [e1] at a3i
  have hmul : (liveL L.procs : Int) * (c.drain + 6) ≤ c.procs * (c.drain + 6) := Int.mul_le_mul_of_nonneg_right hfull (by omega)
  have hcalm : calmR c = c.procs * (c.drain + 6) + 2 * c.procs + (c.drain + 8) + (c.depth + 1) * (c.spin + 12) := by
    unfold calmR
    have : (c.procs + 1) * (c.drain + 8) = c.procs * (c.drain + 6) + 2 * c.procs + (c.drain + 8) := by
      rw [Int.add_mul, Int.one_mul]
      have : c.drain + 8 = (c.drain + 6) + 2 := by omega
      rw [this, Int.mul_add]
      omega
    omega
  by_cases h20 : (L.procs[i]).2.phase = 20
  · have ew : workQ c (shQ (toPP (L.procs[i]).2).node (toPPs L.procs)) (toPP (L.procs[i]).2) = 0 := by
      unfold workQ
      show work _ _ _ _ _ (L.procs[i]).2.phase _ _ = 0
      rw [h20]
      simp [work]
    have hD0 : 0 ≤ (c.depth + 1) * (c.spin + 12) := Int.mul_nonneg (by omega) (by omega)
    refine ⟨fun na => absurd (Or.inr (Or.inr (Or.inr h20))) na, ?_⟩
    unfold Go.Proofs.Ytjnmpejcegmkhaa.phi
    rw [ew, e1, hcalm]
    omega
  · obtain ⟨v, n, hh⟩ := h.rel.here hi h20
    have hph := hh.q.phase
    have hdv : dQ (toPP (L.procs[i]).2) = Nat.log2 v := by
      unfold dQ
      show Nat.log2 (L.procs[i]).2.node.toNat = _
      rw [hh.at', Int.toNat_natCast]
    have hvD : v < 2 ^ (c.depth.toNat + 1) := by rw [← h.rel.len]; exact hh.vN
    have hd : dQ (toPP (L.procs[i]).2) ≤ c.depth.toNat := by
      rw [hdv]
      have := (Nat.log2_lt (show v ≠ 0 by have := hh.v1; omega)).2 hvD
      omega
    have hin : 3 ≤ (L.procs[i]).2.phase → (L.procs[i]).2.phase ≤ 11 → dQ (toPP (L.procs[i]).2) < c.depth.toNat := by
      intro a b
      have hf := hh.q.inner a b
      rw [hh.at', Int.toNat_natCast] at hf
      have hk := (h.rel.kids v hh.v1 hh.vN hf).1
      rw [h.rel.len] at hk
      have h2 := (Nat.log2_lt (show 2 * v + 1 ≠ 0 by omega)).2 hk
      have h3 := (log2_kid ⟨v, hh.v32⟩ hh.v1).2
      simp only at h3
      omega
    obtain ⟨w1, w2⟩ := work_range (D := c.depth.toNat) (by omega) (s := c.spin) (r := c.drain) (by omega) hd0.1 (shQ (toPP (L.procs[i]).2).node (toPPs L.procs)) (L.procs[i]).2.kind (L.procs[i]).2.phase (L.procs[i]).2.pat (dQ (toPP (L.procs[i]).2)) hd (pk i hi).1 (pk i hi).2 hin (by omega)
    have ew : workQ c (shQ (toPP (L.procs[i]).2).node (toPPs L.procs)) (toPP (L.procs[i]).2) = work c.depth.toNat c.spin c.drain (shQ (toPP (L.procs[i]).2).node (toPPs L.procs)) (L.procs[i]).2.kind (L.procs[i]).2.phase (L.procs[i]).2.pat (dQ (toPP (L.procs[i]).2)) := rfl
    have eD : ((c.depth.toNat : Int) + 1) * (c.spin + 12) = (c.depth + 1) * (c.spin + 12) := by rw [Int.toNat_of_nonneg (by omega)]
    rw [eD] at w2
    unfold Go.Proofs.Ytjnmpejcegmkhaa.phi
    rw [ew, e1, hcalm]
    exact ⟨fun _ => by omega, by omega⟩

end Go.Proofs.Ytjnmpejcegmkhaa
