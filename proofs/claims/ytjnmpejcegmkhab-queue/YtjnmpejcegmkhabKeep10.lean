/- One process by itself: it goes on till it is Done (the document's tree alone). No statement of the seat is proved here. A Fold or an Unfold by itself, a Put by itself: how it ends (the document's tree alone). No statement of the seat is proved here. The contract of package prismkeep's settle: behind P15's rounds everybody has arrived. No statement of the seat is proved here. One operation by itself: what holds while it goes on; the contract of package prismkeep's finish. No statement of the seat is proved here. Every number of a counter is below the number of Incs that were begun (the document's tree alone). No statement of the seat is proved here. Rounds of a hand, counter or pool (P15): what a step of a round does. No statement of the seat is proved here. The contract of package prismkeep's settle: behind P15's rounds nobody can go on. No statement of the seat is proved here. What prismkeep's excess counts, behind P15's rounds (the document's tree alone). No statement of the seat is proved here. One operation by itself: what its end says of the tree (the document's tree alone). No statement of the seat is proved here. The contracts of package prismkeep's times and turn. No statement of the seat is proved here. The contract of package prismkeep's ending. No statement of the seat is proved here. The contract of package prismkeep's run. No statement of the seat is proved here. -/
import Derived.Test.YtjnmpejcegmkhabCl6
import Derived.Deep.DeepCutAuto
import Derived.Deep.QuietTactic
import Derived.BigQuiet
import Derived.Test.YtjnmpejcegmkhabCl1
import Derived.Test.YtjnmpejcegmkhabRefStA
namespace Go.Proofs.Ytjnmpejcegmkhab
open Go.RowKit

theorem SQ.own3 {c : Conf} {l : List PP} {j v : Nat} {q q' : PP} (h : SQ c l j v q q') (hst : ¬ (q.phase = 13 ∧ q'.phase = 13) ∧ ¬ (q.phase = 14 ∧ q'.phase = 14)) :
    phi c (l.set j q') q' ≤ phi c l q ∧ (¬ (q.phase ≤ 2 ∧ shQ v l = true) → phi c (l.set j q') q' + 1 ≤ phi c l q) ∧ (q.phase ≤ 2 ∧ shQ v l = true → q'.phase ≤ 2 ∧ q'.node = (v : Int)) := by
  have hs := sumQ_set (holdQ c) l j h.hj q'
  rw [h.eq] at hs
  have hat := h.at'
  have hpm := h.pm
  have hd : dQ q ≤ c.depth.toNat := by
    unfold dQ
    rw [hat, Int.toNat_natCast]
    have := (Nat.log2_lt (show v ≠ 0 by have := h.v1; omega)).2 h.vD
    omega
  have hdv : dQ q = Nat.log2 v := by unfold dQ; rw [hat, Int.toNat_natCast]
  have hd' : q'.phase ≠ 20 → dQ q' ≤ c.depth.toNat := by
    intro h20
    obtain ⟨u, e, u1, u2⟩ := h.node h20
    unfold dQ
    rw [e, Int.toNat_natCast]
    have := (Nat.log2_lt (show u ≠ 0 by omega)).2 u2
    omega
  have hin : 3 ≤ q.phase → q.phase ≤ 11 → dQ q < c.depth.toNat := by
    intro a b
    have h1 := h.inn a b
    have h2 := (Nat.log2_lt (show 2 * v + 1 ≠ 0 by omega)).2 h1
    have h3 := (log2_kid ⟨v, h.v32⟩ h.v1).2
    simp only at h3
    omega
  have hk0 : q'.node = (v : Int) → dQ q' = dQ q := by
    intro e
    rw [hdv]
    unfold dQ
    rw [e, Int.toNat_natCast]
  have hk1 : q'.node / 2 = (v : Int) → dQ q' = dQ q + 1 := by
    intro e
    have h3 := log2_kid ⟨v, h.v32⟩ h.v1
    simp only at h3
    rw [hdv]
    unfold dQ
    have : q'.node.toNat = 2 * v ∨ q'.node.toNat = 2 * v + 1 := by omega
    rcases this with x | x
    · rw [x]; exact h3.1
    · rw [x]; exact h3.2
  have hku : q'.node = (v : Int) / 2 → (v : Int) / 2 ≠ 0 → dQ q = dQ q' + 1 := by
    intro e e0
    have h3 := log2_up ⟨v, h.v32⟩ h.v1 (by show v / 2 ≠ 0; omega)
    simp only at h3
    rw [hdv]
    unfold dQ
    have : q'.node.toNat = v / 2 := by omega
    rw [this]
    exact h3
  have hsh : q.phase ≤ 2 → q'.phase ≤ 2 → q'.node = (v : Int) → shQ q'.node (l.set j q') = shQ v l := by
    intro a b e
    rw [e]
    refine shQ_set l j h.hj q' ?_
    rw [h.eq]
    have e1 : inHold (v : Int) q' = false := by
      cases hh : inHold (v : Int) q'
      · rfl
      · have := (inHold_iff _ _).1 hh; omega
    have e2 : inHold (v : Int) q = false := by
      cases hh : inHold (v : Int) q
      · rfl
      · have := (inHold_iff _ _).1 hh; omega
    rw [e1, e2]
  obtain ⟨w1, w2⟩ := work_own h.spin0 h.drain0 hpm (shQ v l) (shQ q'.node (l.set j q')) q.kind q.pat q'.pat (dQ q) (dQ q') h.ka h.kb hd hd' hin hk0 hk1 hku hsh h.look (fun x => (h.wait x).1) (fun x => (h.wait x).2) h.claim h.shut (fun x => (h.drain x).1) (fun x => (h.drain x).2) hst
  have e0 : phi c l q = work c.depth.toNat c.spin c.drain (shQ v l) q.kind q.phase q.pat (dQ q) + sumQ (holdQ c) l - holdQ c q := by unfold phi workQ; rw [hat]
  have e1 : phi c (l.set j q') q' = work c.depth.toNat c.spin c.drain (shQ q'.node (l.set j q')) q.kind q'.phase q'.pat (dQ q') + sumQ (holdQ c) (l.set j q') - holdQ c q' := by unfold phi workQ; rw [h.kind]
  rw [e0, e1]
  refine ⟨by omega, fun x => by have := w1 x; omega, fun x => ?_⟩
  obtain ⟨x1, x2⟩ := x
  have hpl := hpm.live
  by_cases e1 : q.phase = 1
  · have e2 := (h.look e1).2 x2
    exact ⟨by omega, hpm.back1 e1 e2⟩
  · have := hpm.low (by omega)
    exact ⟨this.2, this.1⟩


/-- All others are Done. -/
def Only (L : Lay) (i : Nat) : Prop := ∀ j, (hj : j < L.procs.length) → j ≠ i → (L.procs[j]).2.phase = 20

section
variable {c : Conf} {L : Lay} {P : PLay} {i : Nat}

theorem only_tot (x : XOk c L) (o : Only L i) (hi : i < L.procs.length) (h13 : 13 ≤ (L.procs[i]).2.phase) : balS L = sumP (fun p => sgn p.kind) L.procs := by
  have ht := x.tot
  unfold TotOk at ht
  have hz : sumP (tokP L.procs) L.procs = 0 := sumP_zero _ _ fun j hj => by
    by_cases e : j = i
    · subst e
      rw [tokP_lo (by omega), if_neg (by omega)]
    · have := o j hj e
      rw [tokP_lo (by omega), if_neg (by omega)]
  omega

/-- Whoever is alone in a pool with room and items for all finds them. -/
theorem only_go (h : CRel c L P) (z : AOk c L) (o : Only L i) (hi : i < L.procs.length) (hN : c.kind = 1 → 0 ≤ sumP (fun p => sgn p.kind) L.procs ∧ sumP (fun p => sgn p.kind) L.procs ≤ c.slots * 2 ^ c.depth.toNat) {v : Nat} (hv : (L.procs[i]).2.node = (v : Int)) :
    ((L.procs[i]).2.phase = 13 → roomyH c v (L.hist v) (L.procs[i]).2.ticket = true) ∧ ((L.procs[i]).2.phase = 14 → itemH (L.hist v) (L.procs[i]).2.ticket ≠ none) := by
  by_cases hp : (L.procs[i]).2.phase = 13 ∨ (L.procs[i]).2.phase = 14
  · rcases h.rel.confs.1 with k | k
    · have := ZOk.still ⟨k, z.x, z.y k⟩ h hi (by omega)
      have e : (toPP (L.procs[i]).2).phase = (L.procs[i]).2.phase := rfl
      rw [e] at this
      omega
    · obtain ⟨u, a1, a2, a3, hf⟩ := at_leaf h hi hp
      have euv : u = v := by omega
      subst euv
      have hlen := h.rel.lenle
      obtain ⟨n0, n1⟩ := hN k
      have hst : Still L := by
        intro j hj
        left
        unfold arrived
        have e : (toPP (L.procs[j]).2).phase = (L.procs[j]).2.phase := rfl
        rw [e]
        by_cases ej : j = i
        · subst ej; omega
        · have := o j hj ej; omega
      have hsh := still_share h hst u a2 a3 (by omega)
      rw [sub_leaf h a2 a3 hf, sub_all h, only_tot z.x o hi (by omega)] at hsh
      have hl4 := log2_32 ⟨u, by omega⟩
      simp only at hl4
      have hrk := rank_lt ⟨u, by omega⟩ a2
      simp only at hrk
      have hld : Nat.log2 u ≤ c.depth.toNat := by
        have := (Nat.log2_lt (show u ≠ 0 by omega)).2 (by rw [← h.rel.len]; exact a3)
        omega
      obtain ⟨z1, _, z3, _⟩ := share_lin hl4 hsh.1 hsh.2 hrk (room_mul hld)
      have hb : balH (L.hist u) = putsH (L.hist u) - manyH 7 (-1) (L.hist u) := by unfold balH; rw [if_pos hf]
      have tk := (z.tk k).at' u a2 a3 hf
      have hil : i < (toPPs L.procs).length := by rw [toPPs_len]; exact hi
      have only : ∀ q t, holdK q (toPPs L.procs) u t → (q = 13 ∨ q = 14) → (L.procs[i]).2.phase = q := by
        rintro q t ⟨j, hj, j1, _, _⟩ hq
        have hj0 : j < L.procs.length := by rw [toPPs_len] at hj; exact hj
        rw [toPPs_at _ _ hj0] at j1
        have j1' : (L.procs[j]).2.phase = q := j1
        by_cases ej : j = i
        · subst ej; exact j1'
        · have := o j hj0 ej
          omega
      obtain ⟨t, et⟩ : ∃ t : Nat, (L.procs[i]).2.ticket = (t : Int) := ⟨(L.procs[i]).2.ticket.toNat, by have := (h.rel.qs i hi).tick.1; omega⟩
      refine ⟨fun e13 => ?_, fun e14 => ?_⟩
      · have htp := ((h.rel.qs i hi).tick.2.2 e13).2
        rw [hv, Int.toNat_natCast, et] at htp
        rw [et]
        unfold roomyH
        simp only [Bool.or_eq_true, decide_eq_true_eq]
        by_cases er : (t : Int) < roomOf c u
        · exact Or.inl er
        · right
          obtain ⟨m, em⟩ : ∃ m : Nat, (t : Int) - roomOf c u = (m : Int) := ⟨((t : Int) - roomOf c u).toNat, by omega⟩
          rw [em]
          have hle : ¬ roomOf c u + 1 ≤ balH (L.hist u) := fun q => by have := z1 q; omega
          rcases tk.get m (by omega) with y | y
          · exact y
          · have := only 14 m y (Or.inr rfl)
            omega
      · have g14 := (z.tk k).g14 i hil (by rw [toPPs_at _ _ hi]; exact e14)
        rw [toPPs_at _ _ hi] at g14
        have g1 : (L.procs[i]).2.ticket < manyH 7 (-1) (L.hist (L.procs[i]).2.node.toNat) ∧ takenH (L.hist (L.procs[i]).2.node.toNat) (L.procs[i]).2.ticket = false := g14
        rw [hv, Int.toNat_natCast, et] at g1
        rw [et]
        have hge : ¬ balH (L.hist u) ≤ -1 := fun q => by have := z3 q; omega
        rcases tk.put t (by omega) with y | y | y
        · exact y
        · rw [g1.2] at y
          exact absurd y (by decide)
        · have := only 13 t y (Or.inl rfl)
          omega
  · exact ⟨fun x => absurd (Or.inl x) hp, fun x => absurd (Or.inr x) hp⟩

/-- One Step of one that is alone: less is ahead of it. -/
theorem only_step (h : CRel c L P) (z : AOk c L) (o : Only L i) (hi : i < L.procs.length) (hl : (L.procs[i]).2.phase ≠ 20) (hN : c.kind = 1 → 0 ≤ sumP (fun p => sgn p.kind) L.procs ∧ sumP (fun p => sgn p.kind) L.procs ≤ c.slots * 2 ^ c.depth.toNat) (draw : Int) :
    ∃ hi' : i < (lstep L i draw).procs.length, Only (lstep L i draw) i ∧ phi c (toPPs (lstep L i draw).procs) (toPP ((lstep L i draw).procs[i]).2) + 1 ≤ phi c (toPPs L.procs) (toPP (L.procs[i]).2) ∧
      (lstep L i draw).procs.length = L.procs.length ∧ (∀ j, (hj : j < L.procs.length) → (hj' : j < (lstep L i draw).procs.length) → j ≠ i → toPP ((lstep L i draw).procs[j]).2 = toPP (L.procs[j]).2) ∧ ((lstep L i draw).procs[i]).2.kind = (L.procs[i]).2.kind ∧ ((lstep L i draw).procs[i]).2.oval = (L.procs[i]).2.oval ∧ ((lstep L i draw).procs[i]).2.onode = (L.procs[i]).2.onode := by
  obtain ⟨v, n, hh⟩ := h.rel.here hi hl
  have hat : (L.procs[i]).2.node = (v : Int) := hh.at'
  obtain ⟨v', q', hs, hp, _, _⟩ := h.sq z.x.pat hi hl draw
  have evv : v' = v := by
    have e1 := hs.at'
    have e2 : (toPP (L.procs[i]).2).node = (L.procs[i]).2.node := rfl
    omega
  subst evv
  have hil : i < (toPPs L.procs).length := by rw [toPPs_len]; exact hi
  have hlen : (lstep L i draw).procs.length = L.procs.length := by
    have := congrArg List.length hp
    simpa [toPPs] using this
  have hi' : i < (lstep L i draw).procs.length := by omega
  have ei : toPP ((lstep L i draw).procs[i]).2 = q' := by
    have e1 : (toPPs (lstep L i draw).procs)[i]? = some q' := by rw [hp, List.getElem?_set_self hil]
    have e2 : (toPPs (lstep L i draw).procs)[i]? = some (toPP ((lstep L i draw).procs[i]).2) := by simp [toPPs, hi']
    rw [e2] at e1
    exact Option.some.inj e1
  have ej : ∀ j, (hj : j < L.procs.length) → (hj' : j < (lstep L i draw).procs.length) → j ≠ i → toPP ((lstep L i draw).procs[j]).2 = toPP (L.procs[j]).2 := by
    intro j hj hj' hne
    have e1 : (toPPs (lstep L i draw).procs)[j]? = (toPPs L.procs)[j]? := by rw [hp, List.getElem?_set_ne (Ne.symm hne)]
    have e2 : (toPPs (lstep L i draw).procs)[j]? = some (toPP ((lstep L i draw).procs[j]).2) := by simp [toPPs, hj']
    have e3 : (toPPs L.procs)[j]? = some (toPP (L.procs[j]).2) := by simp [toPPs, hj]
    rw [e2, e3] at e1
    exact Option.some.inj e1
  obtain ⟨g13, g14⟩ := only_go h z o hi hN hat
  have hst : ¬ ((toPP (L.procs[i]).2).phase = 13 ∧ q'.phase = 13) ∧ ¬ ((toPP (L.procs[i]).2).phase = 14 ∧ q'.phase = 14) := by
    have p0 : (toPP (L.procs[i]).2).phase = (L.procs[i]).2.phase := rfl
    rw [p0]
    have key : (L.procs[i]).2.phase = 13 ∨ (L.procs[i]).2.phase = 14 → q'.phase = 19 := by
      intro hx
      obtain ⟨q'', e1, _, _, k13, k14, _⟩ := hh.arrs draw (by omega)
      have eq : q'' = q' := by
        rw [hp] at e1
        exact (toPPs_setP_get hil e1).symm
      rw [← eq]
      rcases hx with x | x
      · rcases k13 x with y | y
        · exact y.2.1
        · rw [g13 x] at y
          exact absurd y.1 (by decide)
      · rcases k14 x with y | y
        · exact y.2.1
        · exact absurd y.1 (g14 x)
    refine ⟨fun x => ?_, fun x => ?_⟩
    · have := key (Or.inl x.1); omega
    · have := key (Or.inr x.1); omega
  have hsh : ¬ ((toPP (L.procs[i]).2).phase ≤ 2 ∧ shQ v' (toPPs L.procs) = true) := by
    rintro ⟨x1, x2⟩
    obtain ⟨k, hk, ex⟩ := shQ_ex x2
    have hhold := (inHold_iff _ _).1 ex
    have hk0 : k < L.procs.length := by rw [toPPs_len] at hk; exact hk
    rw [toPPs_at _ _ hk0] at hhold
    have p1 : (toPP (L.procs[k]).2).phase = (L.procs[k]).2.phase := rfl
    rw [p1] at hhold
    by_cases e : k = i
    · subst e
      rw [p1] at x1
      omega
    · have := o k hk0 e
      omega
  have hown := (hs.own3 hst).2.1 hsh
  have hop : ((lstep L i draw).procs[i]).2.kind = (L.procs[i]).2.kind ∧ ((lstep L i draw).procs[i]).2.oval = (L.procs[i]).2.oval ∧ ((lstep L i draw).procs[i]).2.onode = (L.procs[i]).2.onode := by
    obtain ⟨p', hw⟩ := hh.went h.ck draw
    have e1 : toPP p' = q' := by
      have := hw.procs
      rw [hp] at this
      exact (toPPs_setP_get hil this).symm
    have := pp_told (ei.trans e1.symm)
    have hop := hw.op
    exact ⟨this.1.trans hop.1, this.2.1.trans hop.2.1, this.2.2.1.trans hop.2.2⟩
  refine ⟨hi', fun j hj hne => ?_, ?_, hlen, ej, hop⟩
  · have hj0 : j < L.procs.length := by omega
    have := pp_told (ej j hj0 hj hne)
    rw [this.2.2.2.1]
    exact o j hj0 hne
  · rw [ei, hp]
    exact hown
end

end Go.Proofs.Ytjnmpejcegmkhab

namespace Go.Proofs.Ytjnmpejcegmkhab
open Go.RowKit

def pr (L : Lay) (i : Nat) : Pr := (L.procs.getD i (0, newPr ⟨0, 0, 0⟩)).2
theorem pr_at {L : Lay} {i : Nat} (hi : i < L.procs.length) : pr L i = (L.procs[i]).2 := by unfold pr; simp [List.getD_eq_getElem?_getD, hi]
theorem pr_set (X : Lay) (i : Nat) (q : Pr) (hi : i < X.procs.length) : pr (X.setP i q) i = q := by
  unfold pr
  simp [List.getD_eq_getElem?_getD, hi]

theorem shut_freeQ (v : Int) : ∀ ps : Prs, (∀ i, (hi : i < ps.length) → ¬ (16 ≤ (ps[i]).2.phase ∧ (ps[i]).2.phase ≤ 18)) → shutL v ps = false
  | [], _ => rfl
  | y :: r, h => by
    have h0 := h 0 (by simp)
    simp only [List.getElem_cons_zero] at h0
    have ih := shut_freeQ v r fun i hi => by
      have := h (i + 1) (by simpa using hi)
      simpa using this
    have e : shutP v y.2 = false := by
      unfold shutP
      have a : ¬ y.2.phase = 16 := by omega
      have b : ¬ y.2.phase = 17 := by omega
      have d : ¬ y.2.phase = 18 := by omega
      simp [a, b, d]
    simp [shutL, e, ih]

/-- How a change of the node nd must end that is alone. -/
def endV (L : Lay) (k : Int) (nd : Nat) : Int :=
  if formH (L.hist nd) = 3 ∨ decide (formH (L.hist nd) = 1) ≠ decide (k = 3) then 2 else if k = 4 then 1 else if formH (L.hist (2 * nd)) = 1 ∨ formH (L.hist (2 * nd + 1)) = 1 then 4 else 1

/-- In the midst of a change that is alone, from L0 on. -/
def ChI (L0 L : Lay) (i nd : Nat) : Prop :=
  (((pr L i).phase = 0 ∨ (pr L i).phase = 1 ∨ (pr L i).phase = 15 ∨ (pr L i).phase = 16 ∨ (pr L i).phase = 17) ∧ ∀ u, L.hist u = L0.hist u) ∨
  (((pr L i).phase = 19 ∨ (pr L i).phase = 20) ∧ (pr L i).val = endV L0 (pr L i).kind nd ∧ (((pr L i).val = 1 ∧ formH (L.hist nd) = if (pr L i).kind = 4 then 1 else 2) ∨ ((pr L i).val ≠ 1 ∧ ∀ u, L.hist u = L0.hist u)))

section
variable {c : Conf} {L : Lay} {P : PLay} {i v : Nat} {p : Pr} {n : PN}

theorem Here.chI {L0 : Lay} {nd : Nat} (h : Here c L P i v p n) (hr : CRel c L P) (o : Only L i) (k3 : 3 ≤ p.kind) (hnd : p.onode = (nd : Int)) (hl0 : L.past.length = L0.past.length) (ci : ChI L0 L i nd) (draw : Int) : ChI L0 (lstep L i draw) i nd := by
  have ck := hr.ck
  have hi := h.hi
  have hv := h.vN
  have ep : pr L i = p := by rw [pr_at hi]; exact h.ep
  have hcq := ck.ci.cq i hi
  rw [h.ep] at hcq
  obtain ⟨c1, c2, c3⟩ := hcq.chg k3
  have hk4 := hcq.kinds
  have hlive := h.live
  have hcf := h.rel.confs
  have hM : ∀ q : Pr, ∀ j, (hj : j < ((L.setP i q).procs).length) → ((L.setP i q).procs[j]).2 = if j = i then q else (L.procs[j]'(by simpa using hj)).2 := by
    intro q j hj
    by_cases e : j = i
    · subst e
      rw [if_pos rfl]
      simp
    · rw [if_neg e]
      simp [List.getElem_set_ne (Ne.symm e)]
  have hsh : (p.phase = 1 ∨ p.phase = 15) → ∀ u : Int, shutL u (L.setP i (incPr p)).procs = false := by
    intro hp u
    refine shut_freeQ u _ fun j hj => ?_
    rw [hM]
    by_cases e : j = i
    · rw [if_pos e]
      have : (incPr p).phase = p.phase := rfl
      omega
    · rw [if_neg e, o j _ e]
      omega
  unfold ChI at ci
  rw [ep] at ci
  have stay : ∀ q : Pr, q.kind = p.kind → (q.phase = 0 ∨ q.phase = 1 ∨ q.phase = 15 ∨ q.phase = 16 ∨ q.phase = 17) → (∀ u, L.hist u = L0.hist u) → ChI L0 ((L.setP i (incPr p)).setP i q) i nd := by
    intro q _ hp hh
    refine Or.inl ?_
    rw [pr_set _ _ _ (by simpa using hi)]
    exact ⟨hp, hh⟩
  have fin : ∀ q : Pr, q.kind = p.kind → (q.phase = 19 ∨ q.phase = 20) → q.val = endV L0 p.kind nd → q.val ≠ 1 → (∀ u, L.hist u = L0.hist u) → ChI L0 ((L.setP i (incPr p)).setP i q) i nd := by
    intro q hk hp hval hne hh
    refine Or.inr ?_
    rw [pr_set _ _ _ (by simpa using hi)]
    exact ⟨hp, by rw [hk]; exact hval, Or.inr ⟨hne, hh⟩⟩
  have upp : ∀ q : Pr, (upPr q).phase = 19 ∨ (upPr q).phase = 20 := by
    intro q
    unfold upPr
    simp only
    split
    · exact Or.inr rfl
    · exact Or.inl rfl
  rcases ci with ⟨hp, hh⟩ | ⟨hp, hval, hx⟩
  · have hp17 : p.phase = 17 ∨ p.phase ≠ 17 := by omega
    rcases hp17 with e17 | n17
    · have tg := h.target17 ck e17
      have hkid := tg.kid
      have h1v := h.v1
      have ev : nd = v := by have := tg.on; omega
      subst ev
      rw [h.lat draw, h.lget]
      simp only
      rw [if_neg (by omega), if_neg (by omega), if_neg (by omega), if_neg (by omega), if_neg (by omega), if_neg (by omega), if_neg (by omega), if_pos e17]
      split
      · rename_i k4
        have k4' : p.kind = 4 := k4
        have hf : formH (L.hist nd) = 2 := by rw [tg.form, if_neg (by omega)]
        refine Or.inr ?_
        rw [pr_set _ _ _ (by simpa using hi)]
        refine ⟨upp _, ?_, Or.inl ⟨rfl, ?_⟩⟩
        · show (1 : Int) = endV L0 p.kind nd
          unfold endV
          rw [← hh nd, hf, k4']
          simp
        · rw [if_pos (show (upPr { incPr p with val := 1 }).kind = 4 from k4')]
          show formH (((L.setP i (incPr p)).unfolded nd nilV nilV nilV nilV nilV).hist nd) = 1
          unfold Lay.unfolded
          rw [hap_hist _ _ _ _ _ _ (by simp; omega) (by omega), hap_hist _ _ _ _ _ _ (by simp; omega) (by omega), hist_hap _ _ _ _ _ _ (by exact hv), if_pos rfl]
          simp [formH]
      · rename_i k4
        have k4' : ¬ p.kind = 4 := k4
        have k3' : p.kind = 3 := by omega
        have hf : formH (L.hist nd) = 1 := by rw [tg.form, if_pos k3']
        split
        · rename_i hkk
          have hkk' : formH (L.hist (2 * nd)) = 1 ∨ formH (L.hist (2 * nd + 1)) = 1 := hkk
          refine fin _ rfl (upp _) ?_ (by show (4 : Int) ≠ 1; decide) hh
          show (4 : Int) = endV L0 p.kind nd
          unfold endV
          rw [← hh nd, ← hh (2 * nd), ← hh (2 * nd + 1), hf, k3', if_neg (by simp), if_neg (by decide), if_pos hkk']
        · rename_i hkk
          have hkk' : ¬ (formH (L.hist (2 * nd)) = 1 ∨ formH (L.hist (2 * nd + 1)) = 1) := hkk
          refine Or.inr ?_
          rw [pr_set _ _ _ (by simpa using hi)]
          refine ⟨upp _, ?_, Or.inl ⟨rfl, ?_⟩⟩
          · show (1 : Int) = endV L0 p.kind nd
            unfold endV
            rw [← hh nd, ← hh (2 * nd), ← hh (2 * nd + 1), hf, k3', if_neg (by simp), if_neg (by decide), if_neg hkk']
          · rw [if_neg (show ¬ (upPr { incPr p with val := 1 }).kind = 4 from k4')]
            show formH (((L.setP i (incPr p)).folded nd nilV nilV nilV nilV).hist nd) = 2
            unfold Lay.folded
            rw [hist_hap _ _ _ _ _ _ (by simp; omega), if_pos rfl]
            simp [formH]
    · rw [h.lat draw, h.lget]
      simp only
      rw [if_neg (by omega), if_neg (by omega), if_neg (by omega), if_neg (by omega), if_neg (by omega), if_neg (by omega), if_neg (by omega), if_neg n17]
      have ein : (incPr p).phase = p.phase := rfl
      rcases hp with e | e | e | e | e
      · have em : lmove (L.setP i (incPr p)) v (incPr p) draw = { incPr p with phase := 1 } := by
          unfold lmove
          rw [ein, if_pos e]
        rw [em]
        exact stay _ rfl (Or.inr (Or.inl rfl)) hh
      · have hs := hsh (Or.inl e) (v : Int)
        have em : lmove (L.setP i (incPr p)) v (incPr p) draw = if formH (L.hist v) = 1 then { incPr p with node := ((towards 6 (incPr p).onode.toNat v : Nat) : Int), phase := if towards 6 (incPr p).onode.toNat v = (incPr p).onode.toNat then 15 else 0 } else { incPr p with val := 2, phase := 19 } := by
          unfold lmove
          rw [ein, if_neg (by omega), if_pos e, hs, if_neg (by decide), if_neg (show ¬ (incPr p).kind < 3 by show ¬ p.kind < 3; omega)]
          rfl
        rw [em]
        split
        · refine stay _ rfl ?_ hh
          show (if towards 6 (incPr p).onode.toNat v = (incPr p).onode.toNat then (15 : Int) else 0) = 0 ∨ (if towards 6 (incPr p).onode.toNat v = (incPr p).onode.toNat then (15 : Int) else 0) = 1 ∨ (if towards 6 (incPr p).onode.toNat v = (incPr p).onode.toNat then (15 : Int) else 0) = 15 ∨ _
          split
          · exact Or.inr (Or.inr (Or.inl rfl))
          · exact Or.inl rfl
        · rename_i hf1
          have hfv := (h.rel.nodes v h.v1 hv).form
          have hf3 := h.f3
          have hf2 : formH (L.hist v) = 2 := by omega
          obtain ⟨oo, t1, t2, t3, t4, t5⟩ := h.target ck k3 (Or.inr (Or.inl e))
          have eo : oo = nd := by omega
          subst eo
          have hN : oo < L.past.length := by
            rw [h.rel.len, Nat.pow_succ]
            omega
          have hlen := h.rel.lenle
          have h3 : formH (L.hist oo) = 3 := leaf_key hr h.v1 hv hf2 oo hN (by have := t5.1; omega) (by unfold undB; exact decide_eq_true t5.2)
          refine fin _ rfl (Or.inl rfl) ?_ (by show (2 : Int) ≠ 1; decide) hh
          show (2 : Int) = endV L0 p.kind oo
          unfold endV
          rw [← hh oo, if_pos (Or.inl h3)]
      · have hn : p.node = p.onode := by
          rcases c3 with x | x | x | x
          · omega
          · exact x.2.2
          · omega
          · omega
        have ev : nd = v := by have := h.at'; omega
        subst ev
        have hs := hsh (Or.inr e) (incPr p).node
        have em : lmove (L.setP i (incPr p)) nd (incPr p) draw = if decide (formH (L.hist nd) = 1) ≠ decide (p.kind = 3) then upPr { incPr p with val := 2 } else { incPr p with phase := 16, pat := L.c.drain } := by
          unfold lmove
          rw [ein, if_neg (by omega), if_neg (by omega), if_neg (by omega), if_neg (by omega), if_neg (by omega), if_neg (by omega), if_neg (by omega), if_neg (by omega), if_pos e]
          unfold shutCh
          rw [hs]
          by_cases z : decide (formH (L.hist nd) = 1) ≠ decide (p.kind = 3)
          · have z' : false = true ∨ decide (formH ((L.setP i (incPr p)).hist nd) = 1) ≠ decide ((incPr p).kind = 3) := Or.inr z
            rw [if_pos z', if_pos z]
          · have z' : ¬ (false = true ∨ decide (formH ((L.setP i (incPr p)).hist nd) = 1) ≠ decide ((incPr p).kind = 3)) := fun y => by
              rcases y with y | y
              · exact absurd y (by decide)
              · exact z y
            rw [if_neg z', if_neg z]
        rw [em]
        split
        · rename_i z
          refine fin _ rfl (upp _) ?_ (by show (2 : Int) ≠ 1; decide) hh
          show (2 : Int) = endV L0 p.kind nd
          unfold endV
          rw [← hh nd, if_pos (Or.inr z)]
        · exact stay _ rfl (Or.inr (Or.inr (Or.inr (Or.inl rfl)))) hh
      · have hins : insideL v (L.setP i (incPr p)).procs = 0 := by
          refine insideL_none v _ fun j hj => ?_
          rw [hM]
          by_cases ej : j = i
          · rw [if_pos ej]
            unfold holdsP atP
            have e1 : (incPr p).phase = 16 := e
            have e2 : (incPr p).node.toNat = v := by have := h.at'; have : (incPr p).node = p.node := rfl; omega
            rw [e1, e2, if_pos (by simp), climb_stop 6 (v / 2) v (by omega)]
            have : ¬ v / 2 = v := by have := h.v1; omega
            simp [this]
          · rw [if_neg ej]
            unfold holdsP
            rw [o j _ ej]
            simp
        have em : lmove (L.setP i (incPr p)) v (incPr p) draw = { incPr p with phase := 17 } := by
          unfold lmove
          rw [ein, if_neg (by omega), if_neg (by omega), if_neg (by omega), if_neg (by omega), if_neg (by omega), if_neg (by omega), if_neg (by omega), if_neg (by omega), if_neg (by omega), if_pos e]
          unfold drainCh
          rw [if_pos hins]
        rw [em]
        exact stay _ rfl (Or.inr (Or.inr (Or.inr (Or.inr rfl)))) hh
      · exact absurd e n17
  · have e19 : p.phase = 19 := by omega
    have em : lmove (L.setP i (incPr p)) v (incPr p) draw = upPr (incPr p) := by
      unfold lmove
      have ein : (incPr p).phase = p.phase := rfl
      rw [ein, if_neg (by omega), if_neg (by omega), if_neg (by omega), if_neg (by omega), if_neg (by omega), if_neg (by omega), if_neg (by omega), if_neg (by omega), if_neg (by omega), if_neg (by omega), if_neg (by omega), if_pos e19]
    rw [h.lat draw, h.lget]
    simp only
    rw [if_neg (by omega), if_neg (by omega), if_neg (by omega), if_neg (by omega), if_neg (by omega), if_neg (by omega), if_neg (by omega), if_neg (by omega), em]
    refine Or.inr ?_
    rw [pr_set _ _ _ (by simpa using hi)]
    exact ⟨upp _, hval, hx⟩

/-- A Put has no Val. -/
theorem Here.val1 (h : Here c L P i v p n) (ck : CK c L P) (kd : KdOk L) (k1 : p.kind = 1) (draw : Int) : (pr (lstep L i draw) i).val = p.val := by
  have hi := h.hi
  have hcq := ck.ci.cq i hi
  rw [h.ep] at hcq
  have hkp := hcq.kp
  have w15 := hkp.walk (by omega)
  have hk0 := kd i hi
  rw [h.ep] at hk0
  have hph := h.q.phase
  have hlive := h.live
  have hset : ∀ (X : Lay) (q : Pr), i < X.procs.length → q.val = p.val → (pr (X.setP i q) i).val = p.val := by
    intro X q hX hq
    rw [pr_set X i q hX]
    exact hq
  have sv : ∀ (q : Pr) (y : Pr) (b : Int), q.kind = 1 → (settledPr q y b).val = q.val := by
    intro q y b hq
    unfold settledPr
    split
    · rfl
    · rw [if_neg (by omega)]
  rw [h.lat draw, h.lget]
  simp only
  by_cases e8 : p.phase = 8
  · rw [if_pos e8]
    obtain ⟨j, hm, hj, hji⟩ := h.q.mind e8
    have ej : p.mind.toNat = j := by omega
    rw [ej, List.getElem?_eq_getElem hj]
    simp only
    split
    · exact hset _ _ (by simpa using hi) (sv _ _ _ k1)
    · exact hset _ _ (by simpa using hi) rfl
  rw [if_neg e8]
  by_cases e9 : p.phase = 9
  · rw [if_pos e9]
    exact hset _ _ (by simpa using hi) rfl
  rw [if_neg e9]
  by_cases e10 : p.phase = 10
  · rw [if_pos e10]
    exact hset _ _ (by simpa using hi) rfl
  rw [if_neg e10]
  by_cases e11 : p.phase = 11
  · rw [if_pos e11]
    exact hset _ _ (by simpa using hi) rfl
  rw [if_neg e11]
  by_cases e12 : p.phase = 12
  · rw [if_pos e12, if_neg (show ¬ (incPr p).kind = 0 by show ¬ p.kind = 0; omega), if_pos (show (incPr p).kind = 1 from k1)]
    exact hset _ _ (by simpa using hi) rfl
  rw [if_neg e12]
  by_cases e13 : p.phase = 13
  · rw [if_pos e13]
    split
    · exact hset _ _ (by simpa using hi) rfl
    · exact hset _ _ hi rfl
  rw [if_neg e13]
  by_cases e14 : p.phase = 14
  · have := hk0.2 e14
    omega
  rw [if_neg e14, if_neg (by omega)]
  refine hset _ _ (by simpa using hi) ?_
  unfold lmove
  have ein : (incPr p).phase = p.phase := rfl
  rw [ein]
  by_cases e0 : p.phase = 0
  · rw [if_pos e0]
  rw [if_neg e0]
  by_cases e1 : p.phase = 1
  · rw [if_pos e1]
    split
    · rfl
    · rw [if_pos (show (incPr p).kind < 3 by show p.kind < 3; omega)]
  rw [if_neg e1]
  by_cases e2 : p.phase = 2
  · rw [if_pos e2]
  rw [if_neg e2]
  by_cases e3 : p.phase = 3
  · rw [if_pos e3]
  rw [if_neg e3]
  by_cases e4 : p.phase = 4
  · rw [if_pos e4]
    split
    · rfl
    · split
      · split <;> rfl
      · rfl
  rw [if_neg e4]
  by_cases e5 : p.phase = 5
  · rw [if_pos e5]
    split <;> rfl
  rw [if_neg e5]
  by_cases e6 : p.phase = 6
  · rw [if_pos e6]
    unfold waitPr
    split
    · rfl
    · split <;> rfl
  rw [if_neg e6]
  by_cases e7 : p.phase = 7
  · rw [if_pos e7]
    split
    · exact sv _ _ _ k1
    · rfl
  rw [if_neg e7, if_neg (by omega), if_neg (by omega), if_neg (by omega)]
  split <;> rfl
end

end Go.Proofs.Ytjnmpejcegmkhab

namespace Go.Proofs.Ytjnmpejcegmkhab
open Go.RowKit

/-- Which of n things the raw number x speaks of. -/
def pickV (x : Int) (n : Nat) : Nat := ((if x < 0 then -(x + 1) else x) % (n : Int)).toNat
theorem pickV_lt (x : Int) (n : Nat) (hn : 1 ≤ n) : pickV x n < n := by
  unfold pickV
  have := Int.emod_lt_of_pos (if x < 0 then -(x + 1) else x) (show 0 < (n : Int) by omega)
  have := Int.emod_nonneg (if x < 0 then -(x + 1) else x) (show (n : Int) ≠ 0 by omega)
  omega

theorem pick_f (x : Int) (hx0 : -9223372036854775808 ≤ x) (n : Nat) (hn : 1 ≤ n) (hn9 : n ≤ 2000000000000) (w : World) : Calls Try.prog 18 #[I x, I n] w fun e w' => e = .returned (I (pickV x n)) ∧ w' = w := by
  have hne : ((n : Int) == 0) = false := by simp; omega
  by_cases hx : x < 0
  · have hv : 0 ≤ -(x + 1) := by omega
    have HR : Hid (-((x + 1).tmod n) = ((pickV x n : Nat) : Int)) := by
      show _ = _
      unfold pickV
      rw [if_pos hx, ← Int.neg_tmod, Int.tmod_eq_emod_of_nonneg hv]
      have := Int.emod_nonneg (-(x + 1)) (show (n : Int) ≠ 0 by omega)
      omega
    generalize pickV x n = pk at *
    go_enter Try.func18, Try.ntmps18
    go_wp2
    go_ret
    exact ⟨ret_i HR.out, rfl⟩
  · have hd : decide (x < 0) = false := by simp; omega
    have HR : Hid (x % n = ((pickV x n : Nat) : Int)) := by
      show _ = _
      unfold pickV
      rw [if_neg hx]
      have := Int.emod_nonneg x (show (n : Int) ≠ 0 by omega)
      omega
    generalize pickV x n = pk at *
    go_enter Try.func18, Try.ntmps18
    go_wp2
    go_ret
    exact ⟨ret_i HR.out, rfl⟩

theorem KSt.confAt {w : World} {B hb : Nat} {c : Conf} {S : Gh} {P : PLay} (h : KSt w B hb c S P) : w.cell? ⟨hb, 1, none⟩ = some (I c.kind) ∧ w.cell? ⟨hb, 2, none⟩ = some (I c.depth) ∧ w.cell? ⟨hb, 3, none⟩ = some (I c.start) ∧ w.cell? ⟨hb, 4, none⟩ = some (I c.slots) ∧ w.cell? ⟨hb, 5, none⟩ = some (I c.width) ∧ w.cell? ⟨hb, 6, none⟩ = some (I c.spin) ∧ w.cell? ⟨hb, 7, none⟩ = some (I c.drain) ∧ w.cell? ⟨hb, 8, none⟩ = some (I c.procs) := by
  obtain ⟨ov, wv, a, b, _⟩ := h.rep.blk
  have e := h.rel.rel.cP
  have f := (nb_facts a).1
  rw [← e]
  exact ⟨by rw [f 1]; rfl, by rw [f 2]; rfl, by rw [f 3]; rfl, by rw [f 4]; rfl, by rw [f 5]; rfl, by rw [f 6]; rfl, by rw [f 7]; rfl, by rw [f 8]; rfl⟩

end Go.Proofs.Ytjnmpejcegmkhab

namespace Go.Proofs.Ytjnmpejcegmkhab
open Go.RowKit

theorem sum_pps (f : Int → Int) : ∀ ps : Ps, sumP (fun p => f p.kind) ps = sumQ (fun q => f q.kind) (toPPs ps)
  | [] => rfl
  | x :: r => by
    show f x.2.kind + sumP (fun p => f p.kind) r = f (toPP x.2).kind + sumQ (fun q => f q.kind) (toPPs r)
    rw [sum_pps f r]
    rfl

/-- In the midst of the operation o, alone in the tree that was L0. -/
structure OneI (c : Conf) (L0 : Lay) (o : Op3) (L : Lay) (i : Nat) : Prop where
  ao : AOk c L
  only : Only L i
  idx : i = L0.procs.length ∧ L.procs.length = L0.procs.length + 1
  past : L.past.length = L0.past.length
  old : ∀ j, (hj : j < L.procs.length) → (hj0 : j < L0.procs.length) → toPP (L.procs[j]).2 = toPP (L0.procs[j]).2
  op : (pr L i).kind = o.kind ∧ (pr L i).oval = o.val ∧ (pr L i).onode = o.node
  sum : sumP (fun p => sgn p.kind) L.procs = sumP (fun p => sgn p.kind) L0.procs + sgn o.kind
  chg : 3 ≤ o.kind → ChI L0 L i o.node.toNat
  put : o.kind = 1 → (pr L i).val = 0

theorem OneI.start {c : Conf} {L0 : Lay} {P : PLay} {o : Op3} (h : CRel c L0 P) (z : AOk c L0) (hall : ∀ j, (hj : j < L0.procs.length) → (L0.procs[j]).2.phase = 20) : OneI c L0 o { L0 with procs := L0.procs ++ [(0, newPr o)] } L0.procs.length := by
  have hl : ({ L0 with procs := L0.procs ++ [(0, newPr o)] } : Lay).procs = L0.procs ++ [(0, newPr o)] := rfl
  have ep : pr { L0 with procs := L0.procs ++ [(0, newPr o)] } L0.procs.length = newPr o := by
    unfold pr
    rw [hl]
    simp [List.getD_eq_getElem?_getD]
  refine ⟨AOk.spawn h z o, fun j hj hne => ?_, ⟨rfl, by rw [hl]; simp⟩, rfl, fun j hj hj0 => ?_, by rw [ep]; exact ⟨rfl, rfl, rfl⟩, ?_, fun _ => ?_, fun _ => by rw [ep]; rfl⟩
  · have hj1 : j < (L0.procs ++ [(0, newPr o)]).length := hj
    simp only [List.length_append, List.length_cons, List.length_nil] at hj1
    have hj0 : j < L0.procs.length := by omega
    show ((L0.procs ++ [(0, newPr o)])[j]).2.phase = 20
    rw [List.getElem_append_left hj0]
    exact hall j hj0
  · show toPP ((L0.procs ++ [(0, newPr o)])[j]).2 = _
    rw [List.getElem_append_left hj0]
  · rw [hl, sumP_one]
    rfl
  · refine Or.inl ?_
    rw [ep]
    refine ⟨?_, fun _ => rfl⟩
    unfold newPr
    simp only
    split
    · exact Or.inr (Or.inr (Or.inl rfl))
    · exact Or.inl rfl

theorem OneI.step {c : Conf} {L0 : Lay} {o : Op3} {L : Lay} {P : PLay} {i : Nat} (x : OneI c L0 o L i) (h : CRel c L P) (hn : 0 ≤ o.node) (hN : c.kind = 1 → 0 ≤ sumP (fun p => sgn p.kind) L0.procs + sgn o.kind ∧ sumP (fun p => sgn p.kind) L0.procs + sgn o.kind ≤ c.slots * 2 ^ c.depth.toNat) (hi : i < L.procs.length) (hl : (L.procs[i]).2.phase ≠ 20) (draw : Int) :
    OneI c L0 o (lstep L i draw) i ∧ ∃ hi' : i < (lstep L i draw).procs.length, phi c (toPPs (lstep L i draw).procs) (toPP ((lstep L i draw).procs[i]).2) + 1 ≤ phi c (toPPs L.procs) (toPP (L.procs[i]).2) := by
  obtain ⟨hi', o1, o2, o3, o4, o5⟩ := only_step h x.ao x.only hi hl (by rw [x.sum]; exact hN) draw
  obtain ⟨v, n, hh⟩ := h.rel.here hi hl
  obtain ⟨p', hw⟩ := hh.went h.ck draw
  have ep := pr_at (L := L) hi
  have ep' := pr_at (L := lstep L i draw) hi'
  have hop := x.op
  rw [ep] at hop
  refine ⟨⟨AOk.step h x.ao hi hl draw, o1, ⟨x.idx.1, by rw [o3]; exact x.idx.2⟩, by rw [hw.past]; exact x.past, fun j hj hj0 => ?_, by rw [ep']; exact ⟨o5.1.trans hop.1, o5.2.1.trans hop.2.1, o5.2.2.trans hop.2.2⟩, ?_, fun k => ?_, fun k => ?_⟩, hi', o2⟩
  · have hjl : j < L.procs.length := by omega
    rw [o4 j hjl hj (by have := x.idx.1; omega)]
    exact x.old j hjl hj0
  · rw [← x.sum, sum_pps, sum_pps, hw.procs]
    have hil : i < (toPPs L.procs).length := by rw [toPPs_len]; exact hi
    have := sumQ_set (fun q => sgn q.kind) (toPPs L.procs) i hil (toPP p')
    have e1 : ((toPPs L.procs)[i]).kind = (L.procs[i]).2.kind := by rw [toPPs_at _ _ hi]; rfl
    have e2 : (toPP p').kind = p'.kind := rfl
    rw [e1, e2, hw.op.1] at this
    omega
  · exact hh.chI h x.only (by rw [hop.1]; exact k) (by rw [hop.2.2]; omega) (x.past) (x.chg k) draw
  · have kd1 : c.kind = 1 := by
      have := (h.rel.qs i hi).kind
      omega
    rw [hh.val1 h.ck (x.ao.kd kd1).kd (by rw [hop.1]; exact k) draw, ← ep]
    exact x.put k

/-- In the midst of finish. -/
def FinS (W : World) (B hb : Nat) (c : Conf) (L0 : Lay) (o : Op3) (i k : Nat) : Prop :=
  ∃ S P, KSt W B hb c S P ∧ OneI c L0 o S.L i ∧ ∃ hi : i < S.L.procs.length, (S.L.procs[i]).2.phase = 20 ∨ phi c (toPPs S.L.procs) (toPP (S.L.procs[i]).2) + k ≤ calmR c
/-- Behind it. -/
def FinE (W : World) (B hb : Nat) (c : Conf) (L0 : Lay) (o : Op3) (i : Nat) : Prop :=
  ∃ S P, KSt W B hb c S P ∧ OneI c L0 o S.L i ∧ ∃ hi : i < S.L.procs.length, (S.L.procs[i]).2.phase = 20

theorem FinS.below {W W' : World} {B hb : Nat} {c : Conf} {L0 : Lay} {o : Op3} {i k : Nat} (h : FinS W B hb c L0 o i k) (hb' : Below W.heap.size W W') : FinS W' B hb c L0 o i k := by
  obtain ⟨S, P, a, r⟩ := h
  exact ⟨S, P, a.below hb', r⟩

theorem FinS.at {W : World} {B hb : Nat} {c : Conf} {L0 : Lay} {o : Op3} {i k : Nat} (h : FinS W B hb c L0 o i k) (hn : 0 ≤ o.node) (hN : c.kind = 1 → 0 ≤ sumP (fun p => sgn p.kind) L0.procs + sgn o.kind ∧ sumP (fun p => sgn p.kind) L0.procs + sgn o.kind ≤ c.slots * 2 ^ c.depth.toNat) :
    ∃ ph nd vl : Int, (∀ W', Below W.heap.size W W' → Calls Try.prog 16 #[.pointer (some ⟨hb, 0, none⟩), I i] W' fun e w' => e = .returned (.agg #[I ph, I nd, I vl]) ∧ Below W'.heap.size W' w') ∧
      (ph = 20 → FinE W B hb c L0 o i) ∧ (calmR c ≤ k → ph = 20) ∧ (ph ≠ 20 → ∀ W', Below W.heap.size W W' → ∀ draw : Int, Calls Try.prog 25 #[.pointer (some ⟨hb, 0, none⟩), I i, I draw] W' fun e w' => e = .returned (.bool true) ∧ FinS w' B hb c L0 o i (k + 1) ∧ ChgT B KS W' w') := by
  obtain ⟨S, P, a, x, hi, f⟩ := h
  refine ⟨(S.L.procs[i]).2.phase, (S.L.procs[i]).2.node, (S.L.procs[i]).2.val, fun W' hw => a.at hw i hi, fun h20 => ⟨S, P, a, x, hi, h20⟩, fun hk => ?_, fun h20 W' hw draw => ?_⟩
  · rcases f with y | y
    · exact y
    · by_cases h20 : (S.L.procs[i]).2.phase = 20
      · exact h20
      · have := (phi_up2 a.rel x.ao.x.pat hi).1 h20
        omega
  · refine (hstep2_c (a.below hw) (i : Int) draw).mono ?_
    rintro e w' ⟨rfl, ⟨P', hk⟩, hc⟩
    refine ⟨rfl, ?_, hc⟩
    have eg : gstep S i draw = ⟨lstep S.L i draw, S.ops, S.went.set i true⟩ := by
      unfold gstep
      rw [if_pos ⟨by omega, by omega, by rw [Int.toNat_natCast, phaseAt_eq S.L i hi]; exact h20⟩, Int.toNat_natCast]
    rw [eg] at hk
    obtain ⟨y, hi', hphi⟩ := x.step a.rel hn hN hi h20 draw
    refine ⟨_, P', hk, y, hi', ?_⟩
    rcases f with z | z
    · exact absurd z h20
    · right
      show phi c (toPPs (lstep S.L i draw).procs) (toPP ((lstep S.L i draw).procs[i]).2) + ((k + 1 : Nat) : Int) ≤ calmR c
      push_cast
      omega

set_option maxHeartbeats 8000000 in
set_option maxRecDepth 100000 in
theorem kfinish_c {w : World} {B hb : Nat} {c : Conf} {L0 : Lay} {o : Op3} {i : Nat} (h : FinS w B hb c L0 o i 0) (hn : 0 ≤ o.node) (hN : c.kind = 1 → 0 ≤ sumP (fun p => sgn p.kind) L0.procs + sgn o.kind ∧ sumP (fun p => sgn p.kind) L0.procs + sgn o.kind ≤ c.slots * 2 ^ c.depth.toNat) (draw : Int) :
    Calls Try.prog 38 #[.pointer (some ⟨hb, 0, none⟩), I i, I draw] w fun e w' => e = .returned (.bool true) ∧ FinE w' B hb c L0 o i ∧ ChgT B KS w w' := by
  have HS0 : Hid (FinS w B hb c L0 o i 0) := h
  have HMY : Hid (mayC c = true) := by obtain ⟨S, P, a, _⟩ := h; exact a.rel.rel.may
  have HSTEP : Hid (∀ W k, FinS W B hb c L0 o i k → ∃ ph nd vl : Int, (∀ W', Below W.heap.size W W' → Calls Try.prog 16 #[.pointer (some ⟨hb, 0, none⟩), I i] W' fun e w' => e = .returned (.agg #[I ph, I nd, I vl]) ∧ Below W'.heap.size W' w') ∧
      (ph = 20 → FinE W B hb c L0 o i) ∧ (calmR c ≤ k → ph = 20) ∧ (ph ≠ 20 → ∀ W', Below W.heap.size W W' → ∀ draw : Int, Calls Try.prog 25 #[.pointer (some ⟨hb, 0, none⟩), I i, I draw] W' fun e w' => e = .returned (.bool true) ∧ FinS w' B hb c L0 o i (k + 1) ∧ ChgT B KS W' w')) := fun W k x => x.at hn hN
  have HKC : Hid (∀ W, Calls Try.prog 30 #[.agg #[I c.kind, I c.depth, I c.start, I c.slots, I c.width, I c.spin, I c.drain, I c.procs]] W fun e w' => e = .returned (I (calmR c)) ∧ Below W.heap.size W w') := fun W => kcalm_c c HMY.out W
  have HCF : Hid (∀ W k, FinS W B hb c L0 o i k → W.cell? ⟨hb, 1, none⟩ = some (I c.kind) ∧ W.cell? ⟨hb, 2, none⟩ = some (I c.depth) ∧ W.cell? ⟨hb, 3, none⟩ = some (I c.start) ∧ W.cell? ⟨hb, 4, none⟩ = some (I c.slots) ∧ W.cell? ⟨hb, 5, none⟩ = some (I c.width) ∧ W.cell? ⟨hb, 6, none⟩ = some (I c.spin) ∧ W.cell? ⟨hb, 7, none⟩ = some (I c.drain) ∧ W.cell? ⟨hb, 8, none⟩ = some (I c.procs)) := fun W k ⟨S, P, a, _⟩ => a.confAt
  have hR : 0 ≤ calmR c ∧ calmR c ≤ 1000 := by
    have hm := HMY.out
    have hc : 0 ≤ c.depth ∧ c.depth ≤ 4 ∧ 0 ≤ c.spin ∧ c.spin ≤ 8 ∧ 0 ≤ c.drain ∧ c.drain ≤ 16 ∧ 1 ≤ c.procs ∧ c.procs ≤ 16 := by simp [mayC] at hm; omega
    have b1 : (c.procs + 1) * (c.drain + 8) ≤ 17 * 24 := Int.mul_le_mul (by omega) (by omega) (by omega) (by omega)
    have b2 : 0 ≤ (c.procs + 1) * (c.drain + 8) := Int.mul_nonneg (by omega) (by omega)
    have b3 : (c.depth + 1) * (c.spin + 12) ≤ 5 * 20 := Int.mul_le_mul (by omega) (by omega) (by omega) (by omega)
    have b4 : 0 ≤ (c.depth + 1) * (c.spin + 12) := Int.mul_nonneg (by omega) (by omega)
    unfold calmR
    omega
  clear h hn hN
  generalize calmR c = R at *
  obtain ⟨r0, r1⟩ := hR
  go_enter Try.func38, Try.ntmps38
  go_wp2_with fail
  go_loopw [7, 8, 9] (fun kk _ _ wr => ∃ k : Nat, (k : Int) ≤ R ∧ kk = .int .i64 k ∧ Hid (FinS wr B hb c L0 o i k) ∧ Hid (ChgT B KS w wr)) (fun kk _ _ _ => (R - intOf kk).toNat)
  case atStart => exact ⟨0, by omega, rfl, HS0.out, ChgT.refl _ _ _⟩
  case round =>
    obtain ⟨k, hk, rfl, hst, hch⟩ := hrel
    obtain ⟨g1, g2, g3, g4, g5, g6, g7, g8⟩ := HCF.out _ _ hst.out
    have lg := cell_lt g1
    go_wp2_with fail
    refine Calls.mono (HKC.out _) ?_
    rintro e w2 ⟨rfl, hb2⟩
    have hst2 : Hid (FinS w2 B hb c L0 o i k) := FinS.below hst.out hb2
    have hch2 : Hid (ChgT B KS w w2) := hch.out.trans (ChgT.of_below hb2)
    clear g1 g2 g3 g4 g5 g6 g7 g8 lg hb2 hst hch
    obtain ⟨ph, nd, vl, hat, hfe, hlast, hstp⟩ := HSTEP.out _ _ hst2.out
    have hat0 := hat _ (Below.refl _ _)
    replace hat0 : Hid _ := hat0
    replace hfe : Hid _ := hfe
    replace hstp : Hid _ := hstp
    replace hlast : Hid _ := hlast
    clear hat
    by_cases hkR : (k : Int) < R
    · have bk : decide ((k : Int) < R) = true := decide_eq_true hkR
      go_wp2_with fail
      refine Calls.mono hat0.out ?_
      rintro e w3 ⟨rfl, hb3⟩
      have hb4 : Below w2.heap.size w2 (w3.alloc (.cells #[I ph, I nd, I vl] 48)) := hb3.alloc hb3.size _
      have HC4 : Hid (ChgT B KS w (w3.alloc (.cells #[I ph, I nd, I vl] 48))) := hch2.out.trans (ChgT.of_below hb4)
      clear hat0 hb3
      by_cases e20 : ph = 20
      · have HFE : Hid (FinE (w3.alloc (.cells #[I ph, I nd, I vl] 48)) B hb c L0 o i) := by
          obtain ⟨S, P, a, r⟩ := hfe.out e20
          exact ⟨S, P, a.below hb4, r⟩
        subst e20
        go_wp2_with fail
        go_ret
        exact ⟨rfl, HFE.out, HC4.out⟩
      · have b20 : (ph == 20) = false := by rw [beq_eq_false_iff_ne]; exact e20
        have hcl : Hid (∀ draw : Int, Calls Try.prog 25 #[.pointer (some ⟨hb, 0, none⟩), I i, I draw] (w3.alloc (.cells #[I ph, I nd, I vl] 48)) fun e w' => e = .returned (.bool true) ∧ FinS w' B hb c L0 o i (k + 1) ∧ ChgT B KS (w3.alloc (.cells #[I ph, I nd, I vl] 48)) w') := fun draw => hstp.out e20 _ hb4 draw
        clear hfe hstp hlast e20 hb4
        go_wp2_with fail
        refine Calls.mono (hcl.out _) ?_
        rintro e w5 ⟨rfl, hs5, hc5⟩
        have HS5 : Hid (FinS w5 B hb c L0 o i (k + 1)) := hs5
        have HC5 : Hid (ChgT B KS w w5) := HC4.out.trans hc5
        clear hcl hs5 hc5
        go_wp2_with fail
        go_roundw
        case rel => exact ⟨k + 1, by push_cast; omega, by go_num, HS5.out, HC5.out⟩
        case measure => simp [intOf]; omega
    · have bk : decide ((k : Int) < R) = false := decide_eq_false hkR
      have e20 : ph = 20 := hlast.out (by omega)
      go_wp2_with fail
      refine Calls.mono hat0.out ?_
      rintro e w3 ⟨rfl, hb3⟩
      have hb4 : Below w2.heap.size w2 (w3.alloc (.cells #[I ph, I nd, I vl] 48)) := hb3.alloc hb3.size _
      have HC4 : Hid (ChgT B KS w (w3.alloc (.cells #[I ph, I nd, I vl] 48))) := hch2.out.trans (ChgT.of_below hb4)
      have HFE : Hid (FinE (w3.alloc (.cells #[I ph, I nd, I vl] 48)) B hb c L0 o i) := by
        obtain ⟨S, P, a, r⟩ := hfe.out e20
        exact ⟨S, P, a.below hb4, r⟩
      clear hat0 hb3 hfe hstp hlast
      subst e20
      go_wp2_with fail
      go_ret
      exact ⟨rfl, HFE.out, HC4.out⟩

end Go.Proofs.Ytjnmpejcegmkhab

namespace Go.Proofs.Ytjnmpejcegmkhab
open Go.RowKit

theorem num_lt {c : Conf} {L : Lay} {P : PLay} (h : CRel c L P) (hc : c.kind = 0) (ht : TotOk L) {x : Int} (hx : Iss L x) : 0 ≤ x ∧ x < sumP (fun p => sgn p.kind) L.procs := by
  have hN := h.rel.lenle
  obtain ⟨u, t, u1, hu, hf, rfl, htp⟩ := hx
  have hsh := all_share h hc u u1 hu (by rw [hf]; decide)
  have tk0 : 0 ≤ tkS L u := by
    have := sumP_mono (fun _ => 0) (fun p => if undB u p.node.toNat = true then tokP L.procs p else 0) L.procs fun i hi => by
      have tn := tok_nonneg h hc i hi
      show (0 : Int) ≤ if undB u (L.procs[i]).2.node.toNat = true then tokP L.procs (L.procs[i]).2 else 0
      split
      · exact tn.1
      · exact Int.le_refl _
    rw [sumP_zero (fun _ => 0) L.procs fun _ _ => rfl] at this
    exact this
  have hbal : balH (L.hist u) = putsH (L.hist u) := by
    unfold balH
    rw [if_pos hf, h.ck.ci.nog hc u hu]
    simp
  have hsub := sub_leaf h u1 hu hf
  have hall : allS L 1 = sumP (fun p => sgn p.kind) L.procs := by
    unfold TotOk at ht
    unfold allS
    rw [sub_all h, ← ht]
    congr 1
    unfold tkS
    refine sumP_congr _ _ _ fun i hi => ?_
    by_cases h20 : (L.procs[i]).2.phase = 20
    · have : tokP L.procs (L.procs[i]).2 = 0 := by unfold tokP; rw [if_neg (by omega)]
      rw [this]
      simp
    · obtain ⟨w, x1, x2, x3, _⟩ := (h.rel.qs i hi).live h20
      have : undB 1 (L.procs[i]).2.node.toNat = true := und_one ⟨(L.procs[i]).2.node.toNat, by omega⟩ (by show 1 ≤ (L.procs[i]).2.node.toNat; omega)
      rw [if_pos this]
  rw [hall] at hsh
  unfold allS at hsh
  rw [hsub, hbal] at hsh
  have hl := log2_32 ⟨u, by omega⟩
  simp only at hl
  generalize sumP (fun p => sgn p.kind) L.procs = N at *
  generalize rank u = rk at *
  generalize putsH (L.hist u) = pu at *
  generalize tkS L u = tk at *
  generalize Nat.log2 u = d at *
  have : d = 0 ∨ d = 1 ∨ d = 2 ∨ d = 3 ∨ d = 4 := by omega
  rcases this with rfl | rfl | rfl | rfl | rfl <;> simp at hsh ⊢ <;> omega

end Go.Proofs.Ytjnmpejcegmkhab

namespace Go.Proofs.Ytjnmpejcegmkhab
open Go.RowKit

end Go.Proofs.Ytjnmpejcegmkhab

namespace Go.Proofs.Ytjnmpejcegmkhab
open Go.RowKit

end Go.Proofs.Ytjnmpejcegmkhab

namespace Go.Proofs.Ytjnmpejcegmkhab
open Go.RowKit

section
variable {c : Conf} {L : Lay} {P : PLay}

end

end Go.Proofs.Ytjnmpejcegmkhab

namespace Go.Proofs.Ytjnmpejcegmkhab
open Go.RowKit

/-- What holds between two operations. -/
structure QOk (c : Conf) (L : Lay) (cnt : Nat) (lies : List Int) : Prop where
  ao : AOk c L
  idle : ∀ j, (hj : j < L.procs.length) → (L.procs[j]).2.phase = 20
  incs : c.kind = 0 → sumP (fun p => sgn p.kind) L.procs = (cnt : Int) ∧ ∀ m : Nat, m < cnt → ∃ j, ∃ hj : j < L.procs.length, (L.procs[j]).2.kind = 0 ∧ (L.procs[j]).2.val = (m : Int)
  lies : ∀ x, lies.count x = (liesL (rnodes L)).count x

theorem QOk.len {c : Conf} {L : Lay} {cnt : Nat} {lies : List Int} (h : QOk c L cnt lies) : lies.length = (liesL (rnodes L)).length := (List.perm_iff_count.2 h.lies).length_eq

theorem QOk.fr {c : Conf} {L : Lay} {cnt : Nat} {lies : List Int} (h : QOk c L cnt lies) : FR c L := FR.none h.idle

theorem QOk.sum {c : Conf} {L : Lay} {P : PLay} {cnt : Nat} {lies : List Int} (h : QOk c L cnt lies) (hr : CRel c L P) (hc : c.kind = 1) : sumP (fun p => sgn p.kind) L.procs = (lies.length : Int) ∧ (lies.length : Int) ≤ c.slots * 2 ^ c.depth.toNat := by
  have hfin := h.fr.c1 hc
  have hA := fin_sum hr hc h.ao.x hfin
  have hst : sumP stA L.procs = 0 := sumP_zero _ _ fun i hi => by
    have := h.idle i hi
    unfold stA
    rw [if_neg (by omega), if_neg (by omega)]
  have hl := lies_lenN hr L.past.length (Nat.le_refl _)
  have er : rnodesTo L L.past.length = rnodes L := rfl
  rw [er, ← h.len] at hl
  have hx := (fin_excess hr hc h.ao.x (h.ao.tk hc) (h.ao.rm hc) hfin).1
  have h13 : sumP is13 L.procs = 0 := sumP_zero _ _ fun i hi => by
    have := h.idle i hi
    unfold is13
    rw [if_neg (by omega)]
  rw [h13] at hx
  have hN : sumP (fun p => sgn p.kind) L.procs = (lies.length : Int) := by omega
  refine ⟨hN, ?_⟩
  rw [hN] at hx
  split at hx <;> omega

theorem items_none {c : Conf} {L : Lay} {P : PLay} (hr : CRel c L P) (hc : c.kind = 0) : liesL (rnodes L) = [] := by
  unfold liesL
  rw [List.flatMap_eq_nil_iff]
  intro d hd
  obtain ⟨v, hv, hi, rfl⟩ := (rnodes_mem L _ d).1 hd
  have hv0 : v ≠ 0 := hi.1
  have hf3 : formH (L.hist v) ≠ 3 := hi.2
  have hn := hr.rel.nodes v (by omega) hv
  have hf := hn.form
  have hf2 : formH (L.hist v) = 1 ∨ formH (L.hist v) = 2 := by omega
  rcases hf2 with f | f
  · simp [rnode, f]
  · have hit := ((hn.leaf f).2.2.2).vals hr.rel.confs.1
    have he := ((hn.leaf f).2.2.2).emp hc
    simp only [rnode, f]
    rw [if_neg (by decide)]
    simp only [hit, he]
    rfl

theorem cntTo_pre (f : Pr → Bool) (g : PP → Bool) (hfg : ∀ p, f p = g (toPP p)) (ps qs : Prs) : ∀ k, k ≤ ps.length → k ≤ qs.length → (∀ j, (h1 : j < ps.length) → (h2 : j < qs.length) → j < k → toPP (ps[j]).2 = toPP (qs[j]).2) → cntTo f ps k = cntTo f qs k
  | 0, _, _, _ => rfl
  | k + 1, h1, h2, h => by
    have ih := cntTo_pre f g hfg ps qs k (by omega) (by omega) fun j a b d => h j a b (by omega)
    simp only [cntTo]
    rw [ih, dif_pos (by omega), dif_pos (by omega), hfg, hfg, h k (by omega) (by omega) (by omega)]

/-- What must lie in the leaves behind the operation. -/
def mustL (o : Op3) (x : Int) (lies : List Int) : List Int := (if o.kind = 1 then [o.val] else []) ++ (if o.kind = 2 then lies.erase x else lies)

section
variable {c : Conf} {L0 L : Lay} {P0 P : PLay} {o : Op3} {i cnt : Nat} {lies : List Int}

theorem one_idle (x : OneI c L0 o L i) (hi : i < L.procs.length) (h20 : (L.procs[i]).2.phase = 20) : ∀ j, (hj : j < L.procs.length) → (L.procs[j]).2.phase = 20 := by
  intro j hj
  by_cases e : j = i
  · subst e; exact h20
  · exact x.only j hj e

theorem one_count (q : QOk c L0 cnt lies) (h0 : CRel c L0 P0) (h : CRel c L P) (x : OneI c L0 o L i) (hi : i < L.procs.length) (h20 : (L.procs[i]).2.phase = 20) (y : Int) : ((liesL (rnodes L)).count y : Int) = (lies.count y : Int) + (if o.kind = 1 ∧ o.val = y then 1 else 0) - (if o.kind = 2 ∧ (L.procs[i]).2.val = y then 1 else 0) := by
  rw [q.lies]
  have hid := one_idle x hi h20
  have hop := x.op
  rw [pr_at hi] at hop
  rcases h.rel.confs.1 with k | k
  · rw [items_none h k, items_none h0 k]
    have := (h.rel.qs i hi).kind
    rw [if_neg (fun z => by omega), if_neg (fun z => by omega)]
    rfl
  · have e1 := lies_still h (x.ao.kd k) (fun j hj => by have := hid j hj; omega) y
    have e0 := lies_still h0 (q.ao.kd k) (fun j hj => by have := q.idle j hj; omega) y
    have hl := x.idx
    have eP : cntTo (putF y) L.procs L0.procs.length = cntTo (putF y) L0.procs L0.procs.length := cntTo_pre (putF y) (fun p => decide (p.kind = 1 ∧ p.oval = y ∧ (p.phase = 19 ∨ p.phase = 20))) (fun _ => rfl) _ _ _ (by omega) (Nat.le_refl _) fun j a b _ => x.old j a b
    have eG : cntTo (gotF y) L.procs L0.procs.length = cntTo (gotF y) L0.procs L0.procs.length := cntTo_pre (gotF y) (fun p => decide (p.kind = 2 ∧ (p.phase = 19 ∨ p.phase = 20) ∧ p.val = y)) (fun _ => rfl) _ _ _ (by omega) (Nat.le_refl _) fun j a b _ => x.old j a b
    have sP : cntTo (putF y) L.procs L.procs.length = cntTo (putF y) L0.procs L0.procs.length + if o.kind = 1 ∧ o.val = y then 1 else 0 := by
      rw [hl.2]
      simp only [cntTo]
      rw [eP, dif_pos (by omega)]
      congr 1
      have ei : i = L0.procs.length := hl.1
      subst ei
      unfold putF
      simp only [hop.1, hop.2.1, h20, decide_eq_true_eq]
      simp
    have sG : cntTo (gotF y) L.procs L.procs.length = cntTo (gotF y) L0.procs L0.procs.length + if o.kind = 2 ∧ (L.procs[i]).2.val = y then 1 else 0 := by
      rw [hl.2]
      simp only [cntTo]
      rw [eG, dif_pos (by omega)]
      congr 1
      have ei : i = L0.procs.length := hl.1
      subst ei
      unfold gotF
      simp only [hop.1, h20, decide_eq_true_eq]
      simp
    rw [e1, e0, sP, sG]
    push_cast
    split <;> split <;> simp <;> omega

theorem one_must (q : QOk c L0 cnt lies) (h0 : CRel c L0 P0) (h : CRel c L P) (x : OneI c L0 o L i) (hi : i < L.procs.length) (h20 : (L.procs[i]).2.phase = 20) : (o.kind = 2 → (L.procs[i]).2.val ∈ lies) ∧ ∀ y, (mustL o (L.procs[i]).2.val lies).count y = (liesL (rnodes L)).count y := by
  have hc := one_count q h0 h x hi h20
  have hmem : o.kind = 2 → (L.procs[i]).2.val ∈ lies := by
    intro k
    have := hc (L.procs[i]).2.val
    rw [if_neg (by omega), if_pos ⟨k, rfl⟩] at this
    exact List.count_pos_iff.1 (by omega)
  refine ⟨hmem, fun y => ?_⟩
  have := hc y
  unfold mustL
  rw [List.count_append]
  by_cases k1 : o.kind = 1
  · rw [if_pos k1, if_neg (by omega)]
    rw [if_neg (show ¬ (o.kind = 2 ∧ _) from fun z => by omega)] at this
    by_cases e : o.val = y
    · rw [if_pos ⟨k1, e⟩] at this
      rw [e]
      simp
      omega
    · rw [if_neg (fun z => e z.2)] at this
      rw [List.count_singleton]
      simp [e]
      omega
  · rw [if_neg k1]
    rw [if_neg (show ¬ (o.kind = 1 ∧ _) from fun z => k1 z.1)] at this
    by_cases k2 : o.kind = 2
    · rw [if_pos k2, List.count_erase]
      by_cases e : (L.procs[i]).2.val = y
      · rw [if_pos ⟨k2, e⟩] at this
        have hp := List.count_pos_iff.2 (hmem k2)
        rw [e] at hp ⊢
        simp
        omega
      · rw [if_neg (fun z => e z.2)] at this
        simp [e]
        omega
    · rw [if_neg k2]
      rw [if_neg (show ¬ (o.kind = 2 ∧ _) from fun z => k2 z.1)] at this
      simp
      omega

/-- An Inc answers how many there were. -/
theorem one_inc (q : QOk c L0 cnt lies) (h : CRel c L P) (hc : c.kind = 0) (x : OneI c L0 o L i) (hi : i < L.procs.length) (h20 : (L.procs[i]).2.phase = 20) (ko : o.kind = 0) : (L.procs[i]).2.val = (cnt : Int) := by
  have hop := x.op
  rw [pr_at hi] at hop
  have hend : endedI (toPP (L.procs[i]).2) := ⟨hop.1.trans ko, Or.inr h20⟩
  have hnum := (x.ao.y hc).num
  obtain ⟨a, b⟩ := num_lt h hc x.ao.x.tot (hnum.iss i hi hend)
  obtain ⟨q1, q2⟩ := q.incs hc
  have hsum := x.sum
  rw [q1, ko] at hsum
  have es : sgn 0 = 1 := by decide
  rw [es] at hsum
  rw [hsum] at b
  by_cases e : (L.procs[i]).2.val = (cnt : Int)
  · exact e
  · exfalso
    obtain ⟨j, hj, j1, j2⟩ := q2 (L.procs[i]).2.val.toNat (by omega)
    have hl := x.idx
    have hjl : j < L.procs.length := by omega
    have ho := pp_told (x.old j hjl hj)
    have := hnum.diff j i hjl hi (by omega) ⟨ho.1.trans j1, Or.inr (x.only j hjl (by omega))⟩ hend
    apply this
    rw [ho.2.2.2.2.2.1, j2]
    omega

theorem one_next (q : QOk c L0 cnt lies) (h0 : CRel c L0 P0) (h : CRel c L P) (x : OneI c L0 o L i) (hi : i < L.procs.length) (h20 : (L.procs[i]).2.phase = 20) : QOk c L (if o.kind = 0 then cnt + 1 else cnt) (mustL o (L.procs[i]).2.val lies) := by
  have hop := x.op
  rw [pr_at hi] at hop
  refine ⟨x.ao, one_idle x hi h20, fun hc => ?_, (one_must q h0 h x hi h20).2⟩
  obtain ⟨q1, q2⟩ := q.incs hc
  have hkd := (h.rel.qs i hi).kind
  have hl := x.idx
  have old : ∀ m : Nat, m < cnt → ∃ j, ∃ hj : j < L.procs.length, (L.procs[j]).2.kind = 0 ∧ (L.procs[j]).2.val = (m : Int) := by
    intro m hm
    obtain ⟨j, hj, j1, j2⟩ := q2 m hm
    have hjl : j < L.procs.length := by omega
    have ho := pp_told (x.old j hjl hj)
    exact ⟨j, hjl, ho.1.trans j1, ho.2.2.2.2.2.1.trans j2⟩
  by_cases k0 : o.kind = 0
  · rw [if_pos k0]
    have es : sgn 0 = 1 := by decide
    refine ⟨by rw [x.sum, q1, k0, es]; push_cast; rfl, fun m hm => ?_⟩
    by_cases e : m = cnt
    · subst e
      exact ⟨i, hi, hop.1.trans k0, one_inc q h hc x hi h20 k0⟩
    · exact old m (by omega)
  · rw [if_neg k0]
    refine ⟨?_, old⟩
    rw [x.sum, q1]
    have : sgn o.kind = 0 := by
      unfold sgn
      rw [if_neg (by omega), if_neg (by omega)]
    omega
end

end Go.Proofs.Ytjnmpejcegmkhab

namespace Go.Proofs.Ytjnmpejcegmkhab
open Go.RowKit

set_option maxHeartbeats 4000000 in
theorem ktimes_c {w : World} {base : Nat} {lv : Value} {n : Nat} {ls : List Int} (hn : n ≤ 1000000) (hl : w.ownsRow base 3 1 lv n (ls.map I)) (x : Int) :
    Calls Try.prog 40 #[lv, I x] w fun e w' => e = .returned (I (ls.count x)) ∧ w' = w := by
  obtain ⟨al, cl, rfl, r1, r2, r3, HC⟩ := row_cells hl
  have HLC : Hid _ := HC
  unfold maxLen at r2
  clear HC hl
  go_enter Try.func40, Try.ntmps40
  go_wp2_with fail
  go_loopw [5, 6] (fun tt ii wx => ∃ k : Nat, k ≤ n ∧ ii = .int .i64 k ∧ tt = .int .i64 ((ls.take k).count x : Nat) ∧ w = wx) (fun _ ii _ => n - (intOf ii).toNat)
  case atStart => exact ⟨0, Nat.zero_le _, rfl, rfl, rfl⟩
  case round =>
    obtain ⟨k, hk, rfl, rfl, rfl⟩ := hrel
    have hcl : (ls.take k).count x ≤ k := Nat.le_trans List.count_le_length (by rw [List.length_take]; omega)
    by_cases hkn : k < n
    · obtain ⟨g, rfl, lg, cg⟩ := HLC.out k (by omega)
      have hkl : k < ls.length := by omega
      have HT : Hid ((ls.take (k + 1)).count x = (ls.take k).count x + if ls[k] = x then 1 else 0) := by
        show _ = _
        rw [List.take_add_one, List.getElem?_eq_getElem hkl, List.count_append]
        simp [List.count_singleton]
      generalize ls[k] = y at *
      have bk : decide ((k : Int) < (n : Int)) = true := decide_eq_true (by omega)
      clear HLC
      generalize hq1 : (ls.take (k + 1)).count x = t1 at *
      have HQ1 : Hid _ := hq1
      clear hq1
      generalize (ls.take k).count x = t0 at *
      by_cases e : y = x
      · have be : (y == x) = true := by rw [beq_iff_eq]; exact e
        have e1 : t1 = t0 + 1 := by rw [HT.out, if_pos e]
        clear HT e
        subst e1
        go_wp2_with fail
        go_roundw
        case rel => exact ⟨k + 1, by omega, by go_num, by rw [HQ1.out]; go_num, trivial⟩
        case measure => simp [intOf]; omega
      · have be : (y == x) = false := by rw [beq_eq_false_iff_ne]; exact e
        have e1 : t1 = t0 := by rw [HT.out, if_neg e]; rfl
        clear HT e
        subst e1
        go_wp2_with fail
        go_roundw
        case rel => exact ⟨k + 1, by omega, by go_num, by rw [HQ1.out], trivial⟩
        case measure => simp [intOf]; omega
    · have ek : k = n := by omega
      subst ek
      have bk : decide ((k : Int) < (k : Int)) = false := decide_eq_false (by omega)
      have ht : ls.take k = ls := by rw [← r3]; exact List.take_length
      rw [ht]
      clear HLC hcl ht
      generalize hq : ls.count x = t0 at *
      have HQ : Hid (ls.count x = t0) := hq
      clear hq
      go_wp2_with fail
      go_ret
      exact ⟨ret_i (by rw [HQ.out]), rfl⟩

/-- What turn may answer. -/
def TurnOk (c : Conf) (n : Nat) (o : Op3) : Prop := okOp c o ∧ 0 ≤ o.node ∧ 0 ≤ o.kind ∧ o.kind ≤ 4 ∧ (o.kind = 1 → (n : Int) < c.slots * 2 ^ c.depth.toNat) ∧ (o.kind = 2 → 0 < n)

set_option maxHeartbeats 8000000 in
set_option maxRecDepth 100000 in
theorem kturn_c {w : World} {B hb : Nat} {c : Conf} {S : Gh} {P : PLay} (h : KSt w B hb c S P) (x n : Nat) (hx : x ≤ 1099511627776) (hn : n ≤ 1000) {W : World} (hw : Below w.heap.size w W) :
    Calls Try.prog 17 #[.pointer (some ⟨hb, 0, none⟩), I x, I n] W fun e w' => (∃ o, e = .returned (.agg #[I o.kind, I o.val, I o.node]) ∧ TurnOk c n o) ∧ Below W.heap.size W w' := by
  obtain ⟨c1, c2, _, c4, _⟩ := (h.below hw).confAt
  have hm := h.rel.rel.may
  have hcf : (c.kind = 0 ∨ c.kind = 1) ∧ 0 ≤ c.depth ∧ c.depth ≤ 4 ∧ 1 ≤ c.slots ∧ c.slots ≤ 4 := by simp [mayC] at hm; omega
  have l0 := cell_lt c1
  obtain ⟨d, hd⟩ := Int.eq_ofNat_of_zero_le hcf.2.1
  obtain ⟨s, hs⟩ := Int.eq_ofNat_of_zero_le (show 0 ≤ c.slots by omega)
  have hd4 : d ≤ 4 := by omega
  have hs4 : 1 ≤ s ∧ s ≤ 4 := by omega
  have HT : Hid (∀ o, TurnOk c n o ↔ (((o.kind = 3 ∨ o.kind = 4) ∧ 1 ≤ o.node ∧ o.node < ((2 ^ d : Nat) : Int)) ∨ (o.kind = 0 ∧ c.kind = 0) ∨ ((o.kind = 1 ∨ o.kind = 2) ∧ c.kind = 1)) ∧ 0 ≤ o.node ∧ 0 ≤ o.kind ∧ o.kind ≤ 4 ∧ (o.kind = 1 → (n : Int) < (s : Int) * 2 ^ d) ∧ (o.kind = 2 → 0 < n)) := by
    intro o
    unfold TurnOk okOp
    rw [hd, hs, Int.toNat_natCast]
  rw [hd] at c2
  rw [hs] at c4
  have hk := hcf.1
  generalize c.kind = ck at *
  have hp2 : 1 ≤ 2 ^ d ∧ 2 ^ d ≤ 16 := ⟨Nat.one_le_two_pow, Nat.le_trans (Nat.pow_le_pow_right (by omega) hd4) (by decide)⟩
  have nb0 : Below W.heap.size W (W.alloc (.cells #[I 0, I 0, I 0] 51)) := (Below.refl _ _).alloc (Nat.le_refl _) _
  clear h hm hcf hd hs hw
  by_cases cA : 0 < d ∧ 1 < x % 4
  · obtain ⟨dA, xA⟩ := cA
    have bd : decide ((0 : Int) < (d : Int)) = true := decide_eq_true (by omega)
    have bx : decide ((1 : Int) < (x : Int) % 4) = true := decide_eq_true (by omega)
    have h1 := sh_one d (by omega)
    have h2 : wrap64 (((2 ^ d : Nat) : Int) - 1) = ((2 ^ d : Nat) : Int) - 1 := IntWalk.wrap64_in _ ⟨by omega, by omega⟩
    have hpd : 2 ≤ 2 ^ d := by
      have := Nat.pow_le_pow_right (show 0 < 2 by omega) (show 1 ≤ d by omega)
      omega
    have m1 : 0 ≤ (x : Int) / 4 % (((2 ^ d : Nat) : Int) - 1) := Int.emod_nonneg _ (by omega)
    have m2 : (x : Int) / 4 % (((2 ^ d : Nat) : Int) - 1) < ((2 ^ d : Nat) : Int) - 1 := Int.emod_lt_of_pos _ (by omega)
    have HWN : Hid (wrap64 (1 + (x : Int) / 4 % wrap64 (wrap64 (2 ^ d) - 1)) = 1 + (x : Int) / 4 % (((2 ^ d : Nat) : Int) - 1)) := by
      show _ = _
      rw [h1, h2]
      exact IntWalk.wrap64_in _ ⟨by omega, by omega⟩
    have HM : Hid (0 ≤ (x : Int) / 4 % (((2 ^ d : Nat) : Int) - 1) ∧ (x : Int) / 4 % (((2 ^ d : Nat) : Int) - 1) < ((2 ^ d : Nat) : Int) - 1) := ⟨m1, m2⟩
    have hz : wrap64 (wrap64 (2 ^ d) - 1) ≠ 0 := by rw [h1, h2]; omega
    have bdn : decide (0 < d) = true := decide_eq_true dA
    clear m1 m2 h1 h2 hp2 hpd
    have HOK : Hid (TurnOk c n ⟨3 + (x : Int) % 2, 0, wrap64 (1 + (x : Int) / 4 % wrap64 (wrap64 (2 ^ d) - 1))⟩) := by
      refine (HT.out _).2 ?_
      simp only
      rw [HWN.out]
      have := HM.out
      omega
    clear HWN HM
    go_enter Try.func17, Try.ntmps17
    go_wp2_with fail
    all_goals first | exact absurd ‹wrap64 (wrap64 (2 ^ d) - 1) = 0› hz | exact bodyPost_ret (v := .agg #[I (3 + (x : Int) % 2), I 0, I (wrap64 (1 + (x : Int) / 4 % wrap64 (wrap64 (2 ^ d) - 1)))]) (by simp [results, Try.results17, go_sem]) rfl ⟨⟨_, rfl, HOK.out⟩, (Below.refl _ _).alloc (Nat.le_refl _) _⟩
  · have hc0 : ck = 0 ∨ ck = 1 := hk
    have hR : 1 ≤ (s : Int) * 2 ^ d ∧ (s : Int) * 2 ^ d ≤ 64 := by
      have h3 : s * 2 ^ d ≤ 4 * 16 := Nat.mul_le_mul hs4.2 hp2.2
      have h5 : 1 * 1 ≤ s * 2 ^ d := Nat.mul_le_mul hs4.1 hp2.1
      have h4 : ((s * 2 ^ d : Nat) : Int) = (s : Int) * 2 ^ d := by push_cast; rfl
      omega
    have hW : wrap64 ((s : Int) * 2 ^ d) = (s : Int) * 2 ^ d := IntWalk.wrap64_in _ ⟨by omega, by omega⟩
    have HRW : Hid (1 ≤ (s : Int) * 2 ^ d ∧ (s : Int) * 2 ^ d ≤ 64 ∧ wrap64 ((s : Int) * 2 ^ d) = (s : Int) * 2 ^ d) := ⟨hR.1, hR.2, hW⟩
    have hcA : (0 < d → ¬ 1 < x % 4) := fun a b => cA ⟨a, b⟩
    clear hR hW cA hp2
    have walk : ∀ ba : Bool, decide ((0 : Int) < (d : Int)) = ba → decide (0 < d) = ba → (ba = true → decide ((1 : Int) < (x : Int) % 4) = false) → Calls Try.prog 17 #[.pointer (some ⟨hb, 0, none⟩), I x, I n] W fun e w' => (∃ o, e = .returned (.agg #[I o.kind, I o.val, I o.node]) ∧ TurnOk c n o) ∧ Below W.heap.size W w' := by
      intro ba bd bdn bx
      rcases hc0 with rfl | rfl
      · have HOK : Hid (TurnOk c n ⟨0, 0, 0⟩) := (HT.out _).2 (by simp)
        clear HT HRW
        cases ba
        · go_enter Try.func17, Try.ntmps17
          go_wp2_with fail
          exact bodyPost_ret (v := .agg #[I 0, I 0, I 0]) (by simp [results, Try.results17, go_sem]) rfl ⟨⟨_, rfl, HOK.out⟩, (Below.refl _ _).alloc (Nat.le_refl _) _⟩
        · have bx' := bx rfl
          clear bx
          go_enter Try.func17, Try.ntmps17
          go_wp2_with fail
          exact bodyPost_ret (v := .agg #[I 0, I 0, I 0]) (by simp [results, Try.results17, go_sem]) rfl ⟨⟨_, rfl, HOK.out⟩, (Below.refl _ _).alloc (Nat.le_refl _) _⟩
      · obtain ⟨r1, r2, r3⟩ := HRW.out
        have HPUT : Hid ((n : Int) < (s : Int) * 2 ^ d → ∀ y, TurnOk c n ⟨1, y, 0⟩) := fun hlt y => (HT.out _).2 (by simp; exact hlt)
        have HGET : Hid (0 < n → TurnOk c n ⟨2, 0, 0⟩) := fun hlt => (HT.out _).2 (by simp; exact hlt)
        clear HT HRW
        have hbx : ba = true → decide ((1 : Int) < (x : Int) % 4) = false := bx
        clear bx
        have go : ∀ bt : Bool, (ba = false ∨ (ba = true ∧ decide ((1 : Int) < (x : Int) % 4) = false)) → True := fun _ _ => trivial
        by_cases n0 : n = 0
        · subst n0
          have HOK : Hid (TurnOk c 0 ⟨1, (x : Int) / 32 % 5, 0⟩) := HPUT.out (by simpa using (show (0 : Int) < (s : Int) * 2 ^ d by omega)) _
          clear HPUT HGET r1 r2 r3 go
          cases ba
          · clear hbx
            go_enter Try.func17, Try.ntmps17
            go_wp2_with fail
            go_quiet (fail)
            have hb9 := Below.drewN' nb0 nq
            go_wp2_with fail
            exact bodyPost_ret (v := .agg #[I 1, I ((x : Int) / 32 % 5), I 0]) (by simp [results, Try.results17, go_sem]) rfl ⟨⟨⟨1, (x : Int) / 32 % 5, 0⟩, rfl, HOK.out⟩, (((hb9.setCell (p := ⟨W.heap.size, 0, none⟩) (Nat.le_refl _) _).setCell (p := ⟨W.heap.size, 1, none⟩) (Nat.le_refl _) _).setCell (p := ⟨W.heap.size, 2, none⟩) (Nat.le_refl _) _)⟩
          · have bx' := hbx rfl
            clear hbx
            go_enter Try.func17, Try.ntmps17
            go_wp2_with fail
            go_quiet (fail)
            have hb9 := Below.drewN' nb0 nq
            go_wp2_with fail
            exact bodyPost_ret (v := .agg #[I 1, I ((x : Int) / 32 % 5), I 0]) (by simp [results, Try.results17, go_sem]) rfl ⟨⟨⟨1, (x : Int) / 32 % 5, 0⟩, rfl, HOK.out⟩, (((hb9.setCell (p := ⟨W.heap.size, 0, none⟩) (Nat.le_refl _) _).setCell (p := ⟨W.heap.size, 1, none⟩) (Nat.le_refl _) _).setCell (p := ⟨W.heap.size, 2, none⟩) (Nat.le_refl _) _)⟩
        · have bn : ((n : Int) == 0) = false := by rw [beq_eq_false_iff_ne]; omega
          have bnn : (n == 0) = false := by rw [beq_eq_false_iff_ne]; omega
          by_cases hlt : (n : Int) < (s : Int) * 2 ^ d
          · have bR : decide ((n : Int) < wrap64 ((s : Int) * 2 ^ d)) = true := by rw [r3]; exact decide_eq_true hlt
            by_cases h8 : 0 < x / 8 % 3
            · have b8 : decide ((0 : Int) < (x : Int) / 8 % 3) = true := decide_eq_true (by omega)
              have HOK : Hid (TurnOk c n ⟨1, (x : Int) / 32 % 5, 0⟩) := HPUT.out hlt _
              clear HPUT HGET r1 r2 r3 go hlt h8
              cases ba
              · clear hbx
                go_enter Try.func17, Try.ntmps17
                go_wp2_with fail
                go_quiet (fail)
                have hb9 := Below.drewN' nb0 nq
                go_wp2_with fail
                exact bodyPost_ret (v := .agg #[I 1, I ((x : Int) / 32 % 5), I 0]) (by simp [results, Try.results17, go_sem]) rfl ⟨⟨⟨1, (x : Int) / 32 % 5, 0⟩, rfl, HOK.out⟩, (((hb9.setCell (p := ⟨W.heap.size, 0, none⟩) (Nat.le_refl _) _).setCell (p := ⟨W.heap.size, 1, none⟩) (Nat.le_refl _) _).setCell (p := ⟨W.heap.size, 2, none⟩) (Nat.le_refl _) _)⟩
              · have bx' := hbx rfl
                clear hbx
                go_enter Try.func17, Try.ntmps17
                go_wp2_with fail
                go_quiet (fail)
                have hb9 := Below.drewN' nb0 nq
                go_wp2_with fail
                exact bodyPost_ret (v := .agg #[I 1, I ((x : Int) / 32 % 5), I 0]) (by simp [results, Try.results17, go_sem]) rfl ⟨⟨⟨1, (x : Int) / 32 % 5, 0⟩, rfl, HOK.out⟩, (((hb9.setCell (p := ⟨W.heap.size, 0, none⟩) (Nat.le_refl _) _).setCell (p := ⟨W.heap.size, 1, none⟩) (Nat.le_refl _) _).setCell (p := ⟨W.heap.size, 2, none⟩) (Nat.le_refl _) _)⟩
            · have b8 : decide ((0 : Int) < (x : Int) / 8 % 3) = false := decide_eq_false (by omega)
              have HOK : Hid (TurnOk c n ⟨2, 0, 0⟩) := HGET.out (by omega)
              clear HPUT HGET r1 r2 r3 go hlt h8
              cases ba
              · clear hbx
                go_enter Try.func17, Try.ntmps17
                go_wp2_with fail
                go_quiet (fail)
                have hb9 := Below.drewN' nb0 nq
                go_wp2_with fail
                exact bodyPost_ret (v := .agg #[I 2, I (0), I 0]) (by simp [results, Try.results17, go_sem]) rfl ⟨⟨⟨2, 0, 0⟩, rfl, HOK.out⟩, (((hb9.setCell (p := ⟨W.heap.size, 0, none⟩) (Nat.le_refl _) _).setCell (p := ⟨W.heap.size, 1, none⟩) (Nat.le_refl _) _).setCell (p := ⟨W.heap.size, 2, none⟩) (Nat.le_refl _) _)⟩
              · have bx' := hbx rfl
                clear hbx
                go_enter Try.func17, Try.ntmps17
                go_wp2_with fail
                go_quiet (fail)
                have hb9 := Below.drewN' nb0 nq
                go_wp2_with fail
                exact bodyPost_ret (v := .agg #[I 2, I (0), I 0]) (by simp [results, Try.results17, go_sem]) rfl ⟨⟨⟨2, 0, 0⟩, rfl, HOK.out⟩, (((hb9.setCell (p := ⟨W.heap.size, 0, none⟩) (Nat.le_refl _) _).setCell (p := ⟨W.heap.size, 1, none⟩) (Nat.le_refl _) _).setCell (p := ⟨W.heap.size, 2, none⟩) (Nat.le_refl _) _)⟩
          · have bR : decide ((n : Int) < wrap64 ((s : Int) * 2 ^ d)) = false := by rw [r3]; exact decide_eq_false hlt
            have HOK : Hid (TurnOk c n ⟨2, 0, 0⟩) := HGET.out (by omega)
            clear HPUT HGET r1 r2 r3 go hlt
            cases ba
            · clear hbx
              go_enter Try.func17, Try.ntmps17
              go_wp2_with fail
              go_quiet (fail)
              have hb9 := Below.drewN' nb0 nq
              go_wp2_with fail
              exact bodyPost_ret (v := .agg #[I 2, I (0), I 0]) (by simp [results, Try.results17, go_sem]) rfl ⟨⟨⟨2, 0, 0⟩, rfl, HOK.out⟩, (((hb9.setCell (p := ⟨W.heap.size, 0, none⟩) (Nat.le_refl _) _).setCell (p := ⟨W.heap.size, 1, none⟩) (Nat.le_refl _) _).setCell (p := ⟨W.heap.size, 2, none⟩) (Nat.le_refl _) _)⟩
            · have bx' := hbx rfl
              clear hbx
              go_enter Try.func17, Try.ntmps17
              go_wp2_with fail
              go_quiet (fail)
              have hb9 := Below.drewN' nb0 nq
              go_wp2_with fail
              exact bodyPost_ret (v := .agg #[I 2, I (0), I 0]) (by simp [results, Try.results17, go_sem]) rfl ⟨⟨⟨2, 0, 0⟩, rfl, HOK.out⟩, (((hb9.setCell (p := ⟨W.heap.size, 0, none⟩) (Nat.le_refl _) _).setCell (p := ⟨W.heap.size, 1, none⟩) (Nat.le_refl _) _).setCell (p := ⟨W.heap.size, 2, none⟩) (Nat.le_refl _) _)⟩
    by_cases d0 : 0 < d
    · exact walk true (decide_eq_true (by omega)) (decide_eq_true d0) (fun _ => decide_eq_false (by have := hcA d0; omega))
    · exact walk false (decide_eq_false (by omega)) (decide_eq_false d0) (fun z => by cases z)

end Go.Proofs.Ytjnmpejcegmkhab

namespace Go.Proofs.Ytjnmpejcegmkhab
open Go.RowKit

theorem findN_atQ (v : Int) : ∀ (l : List Int) (i : Nat), 0 ≤ findN v l i → ∃ k, ∃ hk : k < l.length, findN v l i = ((i + k : Nat) : Int) ∧ l[k] = v
  | [], _, h => by simp [findN] at h
  | x :: r, i, h => by
    unfold findN at h ⊢
    by_cases e : x = v
    · rw [if_pos e]
      exact ⟨0, by simp, by simp, by simpa using e⟩
    · rw [if_neg e] at h ⊢
      obtain ⟨k, hk, a, b⟩ := findN_atQ v r (i + 1) h
      exact ⟨k + 1, by simpa using hk, by rw [a]; congr 1; omega, by simpa using b⟩

/-- Where a node is told, if it is. -/
theorem find_rnodeQ (L : Lay) (u : Nat) : (findN u ((rnodes L).map fun d => d.num) 0 = -1 ∧ ¬ (u < L.past.length ∧ isV L u)) ∨ ∃ k, ∃ hk : k < (rnodes L).length, findN u ((rnodes L).map fun d => d.num) 0 = (k : Int) ∧ (rnodes L)[k] = rnode L u ∧ (u < L.past.length ∧ isV L u) := by
  by_cases h : u < L.past.length ∧ isV L u
  · right
    have hm : (u : Int) ∈ (rnodes L).map fun d => d.num := List.mem_map.2 ⟨rnode L u, (rnodes_mem L _ _).2 ⟨u, h.1, h.2, rfl⟩, (rnode_num L u).1⟩
    obtain ⟨k, hk, a, b⟩ := findN_atQ _ _ 0 (findN_mem _ _ 0 hm)
    have hk' : k < (rnodes L).length := by simpa using hk
    refine ⟨k, hk', by rw [a]; simp, ?_, h⟩
    rw [List.getElem_map] at b
    obtain ⟨v, c1, c2, e⟩ := (rnodes_mem L _ _).1 (List.getElem_mem hk')
    have e' : (rnodes L)[k] = rnode L v := e
    rw [e', (rnode_num L v).1] at b
    have : v = u := by omega
    rw [e', this]
  · left
    refine ⟨?_, h⟩
    by_cases hf : 0 ≤ findN u ((rnodes L).map fun d => d.num) 0
    · exfalso
      obtain ⟨k, hk, a, b⟩ := findN_atQ _ _ 0 hf
      have hk' : k < (rnodes L).length := by simpa using hk
      rw [List.getElem_map] at b
      obtain ⟨v, c1, c2, e⟩ := (rnodes_mem L _ _).1 (List.getElem_mem hk')
      have e' : (rnodes L)[k] = rnode L v := e
      rw [e', (rnode_num L v).1] at b
      have : v = u := by omega
      subst this
      exact h ⟨c1, c2⟩
    · have : ∀ (v : Int) (l : List Int) (i : Nat), -1 ≤ findN v l i := by
        intro v l
        induction l with
        | nil => intro i; simp [findN]
        | cons x r ih => intro i; unfold findN; split; omega; exact ih _
      have := this u ((rnodes L).map fun d => d.num) 0
      omega


/-- Where find finds a node in what Nodes told. -/
theorem find_at {w : World} {b : Nat} {x : Value} {l : List (ND × Value × Value)} {L : Lay} (hr : NodesRep w b x l) (el : l.map (fun y => y.1) = rnodes L) (u : Nat) :
    (findN u (l.map fun y => y.1.num) 0 = -1 ∧ ¬ (u < L.past.length ∧ isV L u)) ∨ ∃ k g, k < l.length ∧ findN u (l.map fun y => y.1.num) 0 = (k : Int) ∧ (∀ ao n c, x = .slice ao n c → ao = some ⟨g, 0, none⟩) ∧ g < w.heap.size ∧ w.cell? ⟨g, k * 12 + 3, none⟩ = some (.bool (decide (formH (L.hist u) = 1))) ∧ (u < L.past.length ∧ isV L u) := by
  have en : (l.map fun y => y.1.num) = (rnodes L).map fun d => d.num := by rw [← el]; simp
  rw [en]
  rcases find_rnodeQ L u with h | ⟨k, hk, a, e, h⟩
  · exact Or.inl h
  · right
    have hl : l.length = (rnodes L).length := by rw [← el]; simp
    have hkl : k < l.length := by omega
    obtain ⟨g, e1, l1, f⟩ := nodes_at hr k hkl
    refine ⟨k, g, hkl, a, e1, l1, ?_, h⟩
    rw [f 3 (by omega)]
    have ed : (l[k]).1 = (rnodes L)[k] := by
      have := congrArg (fun z => z[k]?) el
      simp [hkl] at this
      rw [List.getElem?_eq_getElem hk] at this
      exact Option.some.inj this
    show some (Value.bool (l[k]).1.inner) = _
    rw [ed, e, (rnode_num L u).2.2.2]

set_option maxHeartbeats 8000000 in
set_option maxRecDepth 100000 in
theorem kending_c {w : World} {b : Nat} {x : Value} {l : List (ND × Value × Value)} {c : Conf} {L : Lay} {P : PLay} (h : CRel c L P) (hr : NodesRep w b x l) (el : l.map (fun y => y.1) = rnodes L) (kd vl : Int) (nd : Nat) (h1 : 1 ≤ nd) (hN : nd < 2 ^ c.depth.toNat) (hk : kd = 3 ∨ kd = 4) :
    Calls Try.prog 39 #[x, .agg #[I kd, I vl, I nd]] w fun e w' => e = .returned (I (endV L kd nd)) ∧ Below w.heap.size w w' := by
  have hcf := h.rel.confs
  have h16 : 2 ^ c.depth.toNat ≤ 2 ^ 4 := Nat.pow_le_pow_right (by omega) (by omega)
  have hlen : 2 * nd + 1 < L.past.length := by
    rw [h.rel.len, Nat.pow_succ]
    omega
  have hnd : nd < 16 := by omega
  have hba : Below w.heap.size w (w.alloc (.cells #[I kd, I vl, I nd] 51)) := (Below.refl _ _).alloc (Nat.le_refl _) _
  have hrA : NodesRep (w.alloc (.cells #[I kd, I vl, I nd] 51)) b x l := hr.below hba (Nat.le_refl _)
  have HF : Hid (∀ v : Int, ∀ W, Below w.heap.size w W → Calls Try.prog 36 #[x, I v] W fun e w' => e = .returned (I (findN v (l.map fun y => y.1.num) 0)) ∧ w' = W) := fun v W hW => find_c (hr.below hW (Nat.le_refl _)) v
  obtain ⟨ao, cap, ex, q1, q2, q3, _⟩ := ownsRow_cells hr.row
  have g0 := find_at hrA el nd
  have g1 := find_at hrA el (2 * nd)
  have g2 := find_at hrA el (2 * nd + 1)
  have hform := (h.rel.nodes nd h1 (by omega)).form
  have hkids := h.rel.kids nd h1 (by omega)
  have nb0 : (w.alloc (.cells #[I kd, I vl, I nd] 51)).heap[w.heap.size]? = some (.cells #[I kd, I vl, I nd] 51 (0, 0)) := nb_alloc _ _ _
  obtain ⟨x1, f1⟩ := nb_facts nb0
  have lx := (Array.getElem?_eq_some_iff.1 nb0).1
  unfold maxLen at q2 q3
  have hf0 := HF.out nd _ hba
  have hf1 : ∀ W, Below w.heap.size w W → Calls Try.prog 36 #[x, I (2 * (nd : Int))] W fun e w' => e = .returned (I (findN (2 * (nd : Int)) (l.map fun y => y.1.num) 0)) ∧ w' = W := fun W hW => HF.out _ W hW
  have hf2 : ∀ W, Below w.heap.size w W → Calls Try.prog 36 #[x, I (2 * (nd : Int) + 1)] W fun e w' => e = .returned (I (findN (2 * (nd : Int) + 1) (l.map fun y => y.1.num) 0)) ∧ w' = W := fun W hW => HF.out _ W hW
  have e1 : ((2 * nd : Nat) : Int) = 2 * (nd : Int) := by push_cast; rfl
  have e2 : ((2 * nd + 1 : Nat) : Int) = 2 * (nd : Int) + 1 := by push_cast; rfl
  rw [e1] at g1
  rw [e2] at g2
  have HEV : Hid (endV L kd nd = if formH (L.hist nd) = 3 ∨ decide (formH (L.hist nd) = 1) ≠ decide (kd = 3) then 2 else if kd = 4 then 1 else if formH (L.hist (2 * nd)) = 1 ∨ formH (L.hist (2 * nd + 1)) = 1 then 4 else 1) := rfl
  generalize endV L kd nd = ev at *
  subst ex
  replace hf0 : Hid _ := hf0
  replace hf1 : Hid _ := hf1
  replace hf2 : Hid _ := hf2
  clear HF hrA hr nb0 x1 f1 h
  rcases g0 with ⟨a, na⟩ | ⟨k, g, hkl, a, ea, lg, cg, va⟩
  · have f3 : formH (L.hist nd) = 3 := by
      by_cases e : formH (L.hist nd) = 3
      · exact e
      · exact absurd ⟨by omega, by omega, e⟩ na
    have hev : ev = 2 := by rw [HEV.out, if_pos (Or.inl f3)]
    subst hev
    rw [a] at hf0
    clear HEV g1 g2 hf1 hf2 hkids na
    go_enter Try.func39, Try.ntmps39
    go_wp2_with fail
    refine Calls.mono hf0.out ?_
    rintro e w1 ⟨rfl, rfl⟩
    go_wp2_with fail
    go_quiet (fail)
    have hb9 := Below.drewN' hba nq
    go_wp2_with fail
    go_ret
    exact ⟨rfl, hb9⟩
  · have ea' := ea _ _ _ rfl
    subst ea'
    rw [a] at hf0
    have lk : (k : Int) < (l.length : Int) := by omega
    have bk : decide ((k : Int) < 0) = false := decide_eq_false (by omega)
    clear ea
    rcases hk with rfl | rfl
    · by_cases f1' : formH (L.hist nd) = 1
      · rw [decide_eq_true f1'] at cg
        obtain ⟨_, kk2, kk3⟩ := hkids f1'
        rcases g1 with ⟨_, n1⟩ | ⟨k1, gg1, hk1, a1, ea1, lg1, cg1, _⟩
        · exact absurd ⟨by omega, by omega, kk2⟩ n1
        · rcases g2 with ⟨_, n2⟩ | ⟨k2, gg2, hk2, a2, ea2, lg2, cg2, _⟩
          · exact absurd ⟨by omega, by omega, kk3⟩ n2
          · have t1 := ea1 _ _ _ rfl
            have t2 := ea2 _ _ _ rfl
            have t1' := (Addr.mk.inj (Option.some.inj t1)).1
            have t2' := (Addr.mk.inj (Option.some.inj t2)).1
            subst t1'
            subst t2'
            rw [a1] at hf1
            rw [a2] at hf2
            have b1 : decide ((k1 : Int) < 0) = false := decide_eq_false (by omega)
            have b2 : decide ((k2 : Int) < 0) = false := decide_eq_false (by omega)
            have hev : ev = if formH (L.hist (2 * nd)) = 1 ∨ formH (L.hist (2 * nd + 1)) = 1 then 4 else 1 := by
              rw [HEV.out, if_neg (by rw [f1']; simp), if_neg (by decide)]
            by_cases i1 : formH (L.hist (2 * nd)) = 1
            · rw [decide_eq_true i1] at cg1
              rw [if_pos (Or.inl i1)] at hev
              subst hev
              clear HEV hkids ea1 ea2 t1 t2 cg2 i1
              go_enter Try.func39, Try.ntmps39
              go_wp2_with fail
              refine Calls.mono hf0.out ?_
              rintro e w1 ⟨rfl, rfl⟩
              go_wp2_with fail
              go_quiet (fail)
              have hb9 := Below.drewN' hba nq
              go_wp2_with fail
              refine Calls.mono (hf1.out _ hb9) ?_
              rintro e w2 ⟨rfl, rfl⟩
              go_wp2_with fail
              refine Calls.mono (hf2.out _ hb9) ?_
              rintro e w3 ⟨rfl, rfl⟩
              go_wp2_with fail
              go_ret
              exact ⟨rfl, hb9⟩
            · rw [decide_eq_false i1] at cg1
              by_cases i2 : formH (L.hist (2 * nd + 1)) = 1
              · rw [decide_eq_true i2] at cg2
                rw [if_pos (Or.inr i2)] at hev
                subst hev
                clear HEV hkids ea1 ea2 t1 t2 i1 i2
                go_enter Try.func39, Try.ntmps39
                go_wp2_with fail
                refine Calls.mono hf0.out ?_
                rintro e w1 ⟨rfl, rfl⟩
                go_wp2_with fail
                go_quiet (fail)
                have hb9 := Below.drewN' hba nq
                go_wp2_with fail
                refine Calls.mono (hf1.out _ hb9) ?_
                rintro e w2 ⟨rfl, rfl⟩
                go_wp2_with fail
                refine Calls.mono (hf2.out _ hb9) ?_
                rintro e w3 ⟨rfl, rfl⟩
                go_wp2_with fail
                go_ret
                exact ⟨rfl, hb9⟩
              · rw [decide_eq_false i2] at cg2
                rw [if_neg (fun z => by rcases z with z | z; exact i1 z; exact i2 z)] at hev
                subst hev
                clear HEV hkids ea1 ea2 t1 t2 i1 i2
                go_enter Try.func39, Try.ntmps39
                go_wp2_with fail
                refine Calls.mono hf0.out ?_
                rintro e w1 ⟨rfl, rfl⟩
                go_wp2_with fail
                go_quiet (fail)
                have hb9 := Below.drewN' hba nq
                go_wp2_with fail
                refine Calls.mono (hf1.out _ hb9) ?_
                rintro e w2 ⟨rfl, rfl⟩
                go_wp2_with fail
                refine Calls.mono (hf2.out _ hb9) ?_
                rintro e w3 ⟨rfl, rfl⟩
                go_wp2_with fail
                go_ret
                exact ⟨rfl, hb9⟩
      · rw [decide_eq_false f1'] at cg
        have hev : ev = 2 := by rw [HEV.out, if_pos (Or.inr (by simp [f1']))]
        subst hev
        clear HEV g1 g2 hf1 hf2 hkids
        go_enter Try.func39, Try.ntmps39
        go_wp2_with fail
        refine Calls.mono hf0.out ?_
        rintro e w1 ⟨rfl, rfl⟩
        go_wp2_with fail
        go_quiet (fail)
        have hb9 := Below.drewN' hba nq
        go_wp2_with fail
        go_ret
        exact ⟨rfl, hb9⟩
    · by_cases f1' : formH (L.hist nd) = 1
      · rw [decide_eq_true f1'] at cg
        have hev : ev = 2 := by rw [HEV.out, if_pos (Or.inr (by simp [f1']))]
        subst hev
        clear HEV g1 g2 hf1 hf2 hkids
        go_enter Try.func39, Try.ntmps39
        go_wp2_with fail
        refine Calls.mono hf0.out ?_
        rintro e w1 ⟨rfl, rfl⟩
        go_wp2_with fail
        go_quiet (fail)
        have hb9 := Below.drewN' hba nq
        go_wp2_with fail
        go_ret
        exact ⟨rfl, hb9⟩
      · rw [decide_eq_false f1'] at cg
        have hev : ev = 1 := by
          have n3 : formH (L.hist nd) ≠ 3 := va.2.2
          rw [HEV.out, if_neg (fun z => by rcases z with z | z; exact n3 z; exact z (by simp [f1'])), if_pos rfl]
        subst hev
        clear HEV g1 g2 hf1 hf2 hkids
        go_enter Try.func39, Try.ntmps39
        go_wp2_with fail
        refine Calls.mono hf0.out ?_
        rintro e w1 ⟨rfl, rfl⟩
        go_wp2_with fail
        go_quiet (fail)
        have hb9 := Below.drewN' hba nq
        go_wp2_with fail
        go_ret
        exact ⟨rfl, hb9⟩

end Go.Proofs.Ytjnmpejcegmkhab

namespace Go.Proofs.Ytjnmpejcegmkhab
open Go.RowKit

end Go.Proofs.Ytjnmpejcegmkhab
