/- What holds of a tree through every play, counter or pool, and its rounds (the document's tree alone). No statement of the seat is proved here. P15's rounds, of a counter or a pool: between two of them, in the midst of one, behind the last (the document's tree alone). No statement of the seat is proved here. Rounds of a hand, counter or pool (P15): what a step of a round does. No statement of the seat is proved here. The contract of package prismkeep's settle: behind P15's rounds everybody has arrived. No statement of the seat is proved here. The contract of package prismkeep's settle: behind P15's rounds nobody can go on. No statement of the seat is proved here. What prismkeep's excess counts, behind P15's rounds (the document's tree alone). No statement of the seat is proved here. The contract of package prismkeep's excess: behind P15's rounds it answers true. No statement of the seat is proved here. The contract of package prismkeep's ended. No statement of the seat is proved here. The contract of package prismkeep's value: in a pool it answers true. No statement of the seat is proved here. The contract of package prismkeep's values: in a pool it answers true. No statement of the seat is proved here. Contracts of package prismkeep's begin. No statement of the seat is proved here. Arguments of the statements of package prismkeep, opened. No statement of the seat is proved here. The walk of the statement Calm: for every configuration, script and list of picks the call answers true, and what was there is as it was. -/
import Derived.Test.YtjnmpejcegmkhabCnt2
import Derived.Test.YtjnmpejcegmkhabTk1
import Derived.Deep.DeepCutAuto
import Derived.Deep.QuietTactic
import Derived.BigQuiet
import Derived.Test.YtjnmpejcegmkhabCl2
import Derived.Laws.AppendOwnNone
import Derived.Test.YtjnmpejcegmkhabRefStA
import Derived.Test.YtjnmpejcegmkhabCInv
import Derived.Test.YtjnmpejcegmkhabNew0
import Derived.Test.YtjnmpejcegmkhabRows
import Derived.WalkKit
import Derived.ProofKit
import Derived.OpenShut
import Derived.Carry
import Derived.Lib.SmallJoins
import Derived.Deep.Slices
namespace Go.Proofs.Ytjnmpejcegmkhab
open Go.RowKit

/-- A Fold or Unfold that has ended says how. -/
def CvOk (L : Lay) : Prop := ∀ j, (hj : j < L.procs.length) → 3 ≤ (L.procs[j]).2.kind → ((L.procs[j]).2.phase = 19 ∨ (L.procs[j]).2.phase = 20) → 1 ≤ (L.procs[j]).2.val ∧ (L.procs[j]).2.val ≤ 4

section
variable {c : Conf} {L : Lay} {P : PLay} {i v : Nat} {p : Pr} {n : PN}

theorem Here.cv (h : Here c L P i v p n) (ck : CK c L P) (draw : Int) (hc : CvOk L) : CvOk (lstep L i draw) := by
  obtain ⟨p', hw⟩ := h.went ck draw
  have hi := h.hi
  have hep := h.ep
  have hlen := went_len hw
  have hpr := hw.procs
  have hil : i < (toPPs L.procs).length := by rw [toPPs_len]; exact hi
  have hcq := ck.ci.cq i hi
  rw [hep] at hcq
  have hkp := hcq.kp
  have hc0 := hc i hi
  rw [hep] at hc0
  have told : ∀ q : Pr, (toPPs L.procs).set i (toPP q) = (toPPs L.procs).set i (toPP p') → q.phase = p'.phase ∧ q.val = p'.val := by
    intro q e
    have := pp_told (toPPs_setP_get hil e)
    exact ⟨this.2.2.2.1, this.2.2.2.2.2.1⟩
  have upv : ∀ q : Pr, (upPr q).val = q.val := fun _ => rfl
  have key : 3 ≤ p.kind → (p'.phase = 19 ∨ p'.phase = 20) → 1 ≤ p'.val ∧ p'.val ≤ 4 := by
    intro k3 hp
    have hch := hkp.chg k3
    have hl := h.live
    have hph := h.q.phase
    have e2 : ∀ q : Pr, toPPs ((L.setP i (incPr p)).setP i q).procs = (toPPs L.procs).set i (toPP q) := by
      intro q
      rw [toPPs_setP, toPPs_setP, List.set_set]
    rw [h.lat draw, h.lget] at hpr
    simp only at hpr
    rw [if_neg (by omega), if_neg (by omega), if_neg (by omega), if_neg (by omega), if_neg (by omega), if_neg (by omega), if_neg (by omega)] at hpr
    by_cases e17 : p.phase = 17
    · rw [if_pos e17] at hpr
      split at hpr
      · have e3 : toPPs (((L.setP i (incPr p)).unfolded v nilV nilV nilV nilV nilV).setP i (upPr { incPr p with val := 1 })).procs = (toPPs L.procs).set i (toPP (upPr { incPr p with val := 1 })) := by
          rw [toPPs_setP]
          show (toPPs (L.setP i (incPr p)).procs).set i _ = _
          rw [toPPs_setP, List.set_set]
        rw [e3] at hpr
        have := (told _ hpr).2
        rw [upv] at this
        have : (1 : Int) = p'.val := this
        omega
      · split at hpr
        · rw [e2] at hpr
          have := (told _ hpr).2
          rw [upv] at this
          have : (4 : Int) = p'.val := this
          omega
        · have e3 : toPPs (((L.setP i (incPr p)).folded v nilV nilV nilV nilV).setP i (upPr { incPr p with val := 1 })).procs = (toPPs L.procs).set i (toPP (upPr { incPr p with val := 1 })) := by
            rw [toPPs_setP]
            show (toPPs (L.setP i (incPr p)).procs).set i _ = _
            rw [toPPs_setP, List.set_set]
          rw [e3] at hpr
          have := (told _ hpr).2
          rw [upv] at this
          have : (1 : Int) = p'.val := this
          omega
    · rw [if_neg e17, e2] at hpr
      obtain ⟨t1, t2⟩ := told _ hpr
      rw [← t1] at hp
      rw [← t2]
      revert hp
      clear t1 t2 hpr
      unfold lmove
      have ein : (incPr p).phase = p.phase := rfl
      rw [ein]
      by_cases e0 : p.phase = 0
      · rw [if_pos e0]
        intro hp
        have : (1 : Int) = 19 ∨ (1 : Int) = 20 := hp
        omega
      rw [if_neg e0]
      by_cases e1 : p.phase = 1
      · rw [if_pos e1]
        split
        · intro hp
          have : (2 : Int) = 19 ∨ (2 : Int) = 20 := hp
          omega
        · rw [if_neg (show ¬ (incPr p).kind < 3 by show ¬ p.kind < 3; omega)]
          split
          · intro hp
            have hp' : (if towards 6 (incPr p).onode.toNat v = (incPr p).onode.toNat then (15 : Int) else 0) = 19 ∨ (if towards 6 (incPr p).onode.toNat v = (incPr p).onode.toNat then (15 : Int) else 0) = 20 := hp
            split at hp' <;> omega
          · intro _
            show (1 : Int) ≤ 2 ∧ (2 : Int) ≤ 4
            decide
      rw [if_neg e1]
      by_cases e2' : p.phase = 2
      · rw [if_pos e2']
        intro hp
        have : (0 : Int) = 19 ∨ (0 : Int) = 20 := hp
        omega
      rw [if_neg e2', if_neg (by omega), if_neg (by omega), if_neg (by omega), if_neg (by omega), if_neg (by omega)]
      by_cases e15 : p.phase = 15
      · rw [if_pos e15]
        unfold shutCh
        split
        · intro _
          show (1 : Int) ≤ 2 ∧ (2 : Int) ≤ 4
          decide
        · intro hp
          have : (16 : Int) = 19 ∨ (16 : Int) = 20 := hp
          omega
      rw [if_neg e15]
      by_cases e16 : p.phase = 16
      · rw [if_pos e16]
        unfold drainCh
        split
        · intro hp
          have : (17 : Int) = 19 ∨ (17 : Int) = 20 := hp
          omega
        · split
          · intro hp
            have : p.phase = 19 ∨ p.phase = 20 := hp
            omega
          · intro hp
            have : (18 : Int) = 19 ∨ (18 : Int) = 20 := hp
            omega
      rw [if_neg e16]
      by_cases e18 : p.phase = 18
      · rw [if_pos e18]
        intro _
        show (1 : Int) ≤ 3 ∧ (3 : Int) ≤ 4
        decide
      rw [if_neg e18]
      have e19 : p.phase = 19 := by omega
      rw [if_pos e19]
      intro _
      exact hc0 k3 (Or.inl e19)
  intro j hj
  have hj0 : j < L.procs.length := by omega
  by_cases e : j = i
  · subst e
    have e1 : (toPPs (lstep L j draw).procs)[j]? = some (toPP p') := by rw [hpr, List.getElem?_set_self hil]
    have e2 : (toPPs (lstep L j draw).procs)[j]? = some (toPP ((lstep L j draw).procs[j]).2) := by simp [toPPs, hj]
    rw [e2] at e1
    have ht := pp_told (Option.some.inj e1)
    rw [ht.1, ht.2.2.2.1, ht.2.2.2.2.2.1, hw.op.1]
    exact key
  · have e1 : (toPPs (lstep L i draw).procs)[j]? = (toPPs L.procs)[j]? := by rw [hpr, List.getElem?_set_ne (Ne.symm e)]
    have e2 : (toPPs (lstep L i draw).procs)[j]? = some (toPP ((lstep L i draw).procs[j]).2) := by simp [toPPs, hj]
    have e3 : (toPPs L.procs)[j]? = some (toPP (L.procs[j]).2) := by simp [toPPs, hj0]
    rw [e2, e3] at e1
    have ht := pp_told (Option.some.inj e1)
    rw [ht.1, ht.2.2.2.1, ht.2.2.2.2.2.1]
    exact hc j hj0
end

theorem CvOk.spawn {L : Lay} (x : CvOk L) (o : Op3) : CvOk { L with procs := L.procs ++ [(0, newPr o)] } := by
  have hph : (newPr o).phase = 0 ∨ (newPr o).phase = 15 := by
    unfold newPr
    simp only
    split
    · exact Or.inr rfl
    · exact Or.inl rfl
  intro j hj
  have hj0 : j < (L.procs ++ [(0, newPr o)]).length := hj
  show 3 ≤ ((L.procs ++ [(0, newPr o)])[j]).2.kind → (((L.procs ++ [(0, newPr o)])[j]).2.phase = 19 ∨ ((L.procs ++ [(0, newPr o)])[j]).2.phase = 20) → 1 ≤ ((L.procs ++ [(0, newPr o)])[j]).2.val ∧ ((L.procs ++ [(0, newPr o)])[j]).2.val ≤ 4
  by_cases e : j < L.procs.length
  · rw [List.getElem_append_left e]
    exact x j e
  · simp only [List.length_append, List.length_cons, List.length_nil] at hj0
    have e' : j = L.procs.length := by omega
    subst e'
    simp only [List.getElem_concat_length]
    intro _ z
    omega

/-- What goes on through a Step goes on through rounds. -/
theorem inv_lround {c : Conf} (Q : Lay → Prop) (hs : ∀ L P i draw, CRel c L P → Q L → (hi : i < L.procs.length) → (L.procs[i]).2.phase ≠ 20 → Q (lstep L i draw)) {L : Lay} {P : PLay} (h : CRel c L P) (x : Q L) (d : Int) : ∀ k, k ≤ L.procs.length → Q (lroundTo L d k)
  | 0, _ => x
  | k + 1, hk => by
    obtain ⟨⟨P', h'⟩, _, _⟩ := lround_keep h d k (by omega)
    have ih := inv_lround Q hs h x d k (by omega)
    have hl : k < (lroundTo L d k).procs.length := by rw [lroundTo_len]; omega
    unfold lroundTo
    split
    · exact ih
    · rename_i hne
      have hp : ((lroundTo L d k).procs[k]).2.phase ≠ 20 := by
        rw [List.getD_eq_getElem?_getD, List.getElem?_eq_getElem hl] at hne
        exact hne
      exact hs _ _ k (d + k) h' ih hl hp
theorem inv_lrest {c : Conf} (Q : Lay → Prop) (hs : ∀ L P i draw, CRel c L P → Q L → (hi : i < L.procs.length) → (L.procs[i]).2.phase ≠ 20 → Q (lstep L i draw)) {L : Lay} {P : PLay} (h : CRel c L P) (x : Q L) (m : Int) : ∀ r, Q (lrest L m r)
  | 0 => x
  | r + 1 => by
    obtain ⟨⟨P', h'⟩, _, _⟩ := lrest_keep h m r
    have ih := inv_lrest Q hs h x m r
    unfold lrest
    exact inv_lround Q hs h' ih (m + r) L.procs.length (by rw [lrest_len]; omega)
theorem inv_play {c : Conf} (Q : Lay → Prop) (hs : ∀ L P i draw, CRel c L P → Q L → (hi : i < L.procs.length) → (L.procs[i]).2.phase ≠ 20 → Q (lstep L i draw)) (hn : ∀ L P o, CRel c L P → Q L → Q { L with procs := L.procs ++ [(0, newPr o)] }) {w : World} {B hb : Nat} {S : Gh} {P : PLay} (h : KSt w B hb c S P) (x : Q S.L) (k a b : Int) : Q (gplay c S k a b).L := by
  unfold gplay
  split
  · unfold gstep
    split
    · rename_i hh
      have hi : a.toNat < S.L.procs.length := by omega
      have h20 := hh.2.2
      rw [phaseAt_eq S.L _ hi] at h20
      exact hs _ _ _ b h.rel x hi h20
    · exact x
  · split
    · unfold grest
      split
      · exact inv_lrest Q hs h.rel x _ _
      · exact x
    · split
      · unfold gspawn
        split
        · exact hn _ _ _ h.rel x
        · exact x
      · exact x

/-- What holds of a tree, counter or pool. -/
structure AOk (c : Conf) (L : Lay) : Prop where
  x : XOk c L
  cv : CvOk L
  y : c.kind = 0 → YOk L
  kd : c.kind = 1 → VOk L
  tk : c.kind = 1 → TkOk L
  rm : c.kind = 1 → RmOk c L
theorem AOk.step {c : Conf} {L : Lay} {P : PLay} (h : CRel c L P) (z : AOk c L) {i : Nat} (hi : i < L.procs.length) (hl : (L.procs[i]).2.phase ≠ 20) (draw : Int) : AOk c (lstep L i draw) := by
  obtain ⟨v, n, hh⟩ := h.rel.here hi hl
  exact ⟨XOk.step h z.x hi hl draw, hh.cv h.ck draw z.cv, fun e => YOk.step h e (z.y e) hi hl draw, fun e => VOk.step h e (z.kd e) hi hl draw, fun e => TkOk.step h e (z.tk e) hi hl draw, fun e => RmOk.step h e (z.tk e) (z.rm e) hi hl draw⟩
theorem AOk.new (c : Conf) : AOk c (newLay c) := ⟨XOk.new c, fun _ hj => absurd hj (Nat.not_lt_zero _), fun _ => YOk.new c, fun _ => VOk.new c, fun _ => TkOk.new c, fun _ => RmOk.new c⟩
theorem AOk.spawn {c : Conf} {L : Lay} {P : PLay} (h : CRel c L P) (z : AOk c L) (o : Op3) : AOk c { L with procs := L.procs ++ [(0, newPr o)] } :=
  ⟨XOk.spawn h z.x o, z.cv.spawn o, fun e => YOk.spawn h (z.y e) o, fun e => VOk.spawn h (z.kd e) o, fun e => (z.tk e).spawn o, fun e => z.rm e⟩
theorem AOk.play {w : World} {B hb : Nat} {c : Conf} {S : Gh} {P : PLay} (h : KSt w B hb c S P) (z : AOk c S.L) (k a b : Int) : AOk c (gplay c S k a b).L :=
  inv_play (AOk c) (fun _ _ _ draw h x hi hl => AOk.step h x hi hl draw) (fun _ _ o h x => AOk.spawn h x o) h z k a b

end Go.Proofs.Ytjnmpejcegmkhab

namespace Go.Proofs.Ytjnmpejcegmkhab
open Go.RowKit

/-- By then everybody has arrived. -/
def K1 (c : Conf) : Int := calmR c - 2 * c.procs - c.depth - 2
theorem K1_pos {c : Conf} (hm : mayC c = true) : 0 ≤ K1 c ∧ K1 c + 2 ≤ calmR c ∧ 0 ≤ c.procs ∧ 0 ≤ c.depth := by
  have hc : 0 ≤ c.depth ∧ c.depth ≤ 4 ∧ 0 ≤ c.spin ∧ c.spin ≤ 8 ∧ 0 ≤ c.drain ∧ c.drain ≤ 16 ∧ 1 ≤ c.procs ∧ c.procs ≤ 16 := by simp [mayC] at hm; omega
  have b1 : (c.procs + 1) * 8 ≤ (c.procs + 1) * (c.drain + 8) := Int.mul_le_mul_of_nonneg_left (by omega) (by omega)
  have b2 : (c.depth + 1) * 12 ≤ (c.depth + 1) * (c.spin + 12) := Int.mul_le_mul_of_nonneg_left (by omega) (by omega)
  unfold K1 calmR
  omega

def low0 (c : Conf) (l : List PP) (k : Nat) : Prop := ∀ i, (hi : i < l.length) → doneQ l[i] ∨ phi c l l[i] + k ≤ calmR c
def low1 (c : Conf) (l : List PP) (k : Nat) : Prop := ∀ i, (hi : i < l.length) → arrived l[i] ∨ phi c l l[i] + k ≤ calmR c - 2 * c.procs

/-- Between two rounds. -/
structure ER (c : Conf) (L : Lay) (k : Nat) : Prop where
  c0 : c.kind = 0 → low0 c (toPPs L.procs) k
  c1 : c.kind = 1 → ((k : Int) ≤ K1 c ∧ low1 c (toPPs L.procs) k) ∨ (K1 c ≤ k ∧ StageR c L (k - K1 c))
/-- In the midst of a round. -/
structure MR (c : Conf) (L0 L : Lay) (dn : List Nat) (k : Nat) : Prop where
  c0 : c.kind = 0 → low0 c (toPPs L0.procs) k ∧ RC c (toPPs L0.procs) (toPPs L.procs) dn
  c1 : c.kind = 1 → ((k : Int) < K1 c ∧ low1 c (toPPs L0.procs) k ∧ RI c (toPPs L0.procs) (toPPs L.procs) dn) ∨ (K1 c ≤ k ∧ StageR c L0 (k - K1 c) ∧ (∃ P0, CRel c L0 P0) ∧ RJ c L0 L dn)
/-- Behind the last. -/
structure FR (c : Conf) (L : Lay) : Prop where
  c0 : c.kind = 0 → ∀ i, (hi : i < L.procs.length) → (L.procs[i]).2.phase = 20
  c1 : c.kind = 1 → FinOk c L

theorem ER.start {c : Conf} {L : Lay} {P : PLay} (h : CRel c L P) (z : AOk c L) : ER c L 0 := by
  have hk := K1_pos h.rel.may
  refine ⟨fun _ i hi => Or.inr ?_, fun _ => Or.inl ⟨by simpa using hk.1, fun i hi => Or.inr ?_⟩⟩
  · have hi0 : i < L.procs.length := by rw [toPPs_len] at hi; exact hi
    rw [toPPs_at _ _ hi0]
    have := (phi_up2 h z.x.pat hi0).2
    simpa using this
  · have hi0 : i < L.procs.length := by rw [toPPs_len] at hi; exact hi
    rw [toPPs_at _ _ hi0]
    have := (phi_up3 h z.x.pat hi0).2
    simpa using this

theorem ER.round {c : Conf} {L : Lay} {P : PLay} {k : Nat} (e : ER c L k) (h : CRel c L P) (z : AOk c L) : MR c L L [] k := by
  refine ⟨fun x => ⟨e.c0 x, RC.start c _⟩, fun x => ?_⟩
  rcases e.c1 x with ⟨a, b⟩ | ⟨a, b⟩
  · by_cases y : (k : Int) < K1 c
    · exact Or.inl ⟨y, b, RI.start c _⟩
    · have hall : ∀ j, (hj : j < (toPPs L.procs).length) → arrived (toPPs L.procs)[j] := by
        intro j hj
        rcases b j hj with u | u
        · exact u
        · by_cases na : arrived (toPPs L.procs)[j]
          · exact na
          · have hj0 : j < L.procs.length := by rw [toPPs_len] at hj; exact hj
            rw [toPPs_at _ _ hj0] at u na
            have := (phi_up3 h z.x.pat hj0).1 na
            unfold K1 at a y
            omega
      have ek : (k : Int) - K1 c = 0 := by omega
      refine Or.inr ⟨by omega, by rw [ek]; exact StageR.start h hall, ⟨P, h⟩, RJ.start c L hall⟩
  · exact Or.inr ⟨a, b, ⟨P, h⟩, RJ.start c L b.arr⟩

theorem MR.skip {c : Conf} {L0 L : Lay} {dn : List Nat} {k : Nat} (m : MR c L0 L dn k) (j : Nat) (hj : j < L.procs.length) (h20 : (L.procs[j]).2.phase = 20) : MR c L0 L (j :: dn) k := by
  have hj' : j < (toPPs L.procs).length := by rw [toPPs_len]; exact hj
  have e : ((toPPs L.procs)[j]).phase = 20 := by rw [toPPs_at _ _ hj]; exact h20
  refine ⟨fun x => ⟨(m.c0 x).1, (m.c0 x).2.skip j hj' e⟩, fun x => ?_⟩
  rcases m.c1 x with ⟨a, b, d⟩ | ⟨a, b, d, f⟩
  · exact Or.inl ⟨a, b, d.skip j hj' e⟩
  · exact Or.inr ⟨a, b, d, f.skip j hj' e⟩

theorem MR.step {c : Conf} {L0 L : Lay} {P : PLay} {dn : List Nat} {k : Nat} (m : MR c L0 L dn k) (h : CRel c L P) (z : AOk c L) {i : Nat} (hi : i < L.procs.length) (hl : (L.procs[i]).2.phase ≠ 20) (draw : Int) : MR c L0 (lstep L i draw) (i :: dn) k := by
  obtain ⟨v, q', hs, hp, _, _⟩ := h.sq z.x.pat hi hl draw
  refine ⟨fun x => ?_, fun x => ?_⟩
  · refine ⟨(m.c0 x).1, ?_⟩
    rw [hp]
    exact (m.c0 x).2.step hs (ZOk.still ⟨x, z.x, z.y x⟩ h hi hl)
  · rcases m.c1 x with ⟨a, b, d⟩ | ⟨a, b, d, f⟩
    · refine Or.inl ⟨a, b, ?_⟩
      rw [hp]
      exact d.step hs
    · exact Or.inr ⟨a, b, d, f.step h (z.tk x) (z.rm x) hi hl draw⟩

theorem MR.done {c : Conf} {L0 L : Lay} {P : PLay} {dn : List Nat} {k : Nat} (m : MR c L0 L dn k) (h : CRel c L P) (hall : ∀ i, (hi : i < (toPPs L.procs).length) → i ∈ dn ∨ ((toPPs L.procs)[i]).phase = 20) : ER c L (k + 1) := by
  refine ⟨fun x i hi => ?_, fun x => ?_⟩
  · obtain ⟨lo, rc⟩ := m.c0 x
    have hl := rc.len
    have hi0 : i < (toPPs L0.procs).length := by omega
    rcases rc.round hall i hi hi0 with y | y
    · exact Or.inl y
    · rcases lo i hi0 with u | u
      · exact Or.inl (rc.keep i hi hi0 u)
      · exact Or.inr (by push_cast; omega)
  · rcases m.c1 x with ⟨a, lo, ri⟩ | ⟨a, b, ⟨P0, h0⟩, rj⟩
    · left
      refine ⟨by push_cast; omega, fun i hi => ?_⟩
      have hl := ri.len
      have hi0 : i < (toPPs L0.procs).length := by omega
      rcases ri.round hall i hi hi0 with y | y
      · exact Or.inl y
      · rcases lo i hi0 with u | u
        · exact Or.inl (ri.keep i hi hi0 u)
        · exact Or.inr (by push_cast; omega)
    · right
      have e : (((k + 1 : Nat) : Int)) - K1 c = ((k : Int) - K1 c) + 1 := by push_cast; omega
      rw [e]
      exact ⟨by push_cast; omega, b.next h0 h rj hall⟩

theorem ER.fin {c : Conf} {L : Lay} {P : PLay} {k : Nat} (e : ER c L k) (h : CRel c L P) (z : AOk c L) (hk : calmR c ≤ k) : FR c L := by
  have hp := K1_pos h.rel.may
  refine ⟨fun x i hi => ?_, fun x => ?_⟩
  · have hi' : i < (toPPs L.procs).length := by rw [toPPs_len]; exact hi
    have := e.c0 x i hi'
    rw [toPPs_at _ _ hi] at this
    rcases this with y | y
    · exact y
    · by_cases h20 : (L.procs[i]).2.phase = 20
      · exact h20
      · have := (phi_up2 h z.x.pat hi).1 h20
        omega
  · rcases e.c1 x with ⟨a, _⟩ | ⟨a, b⟩
    · omega
    · refine b.fin ⟨hp.2.2.1, hp.2.2.2⟩ ?_
      unfold K1 at *
      omega

theorem FR.none {c : Conf} {L : Lay} (h : ∀ i, (hi : i < L.procs.length) → (L.procs[i]).2.phase = 20) : FR c L := by
  refine ⟨fun _ => h, fun _ j hj => Or.inl ?_⟩
  have hj0 : j < L.procs.length := by rw [toPPs_len] at hj; exact hj
  rw [toPPs_at _ _ hj0]
  exact h j hj0

end Go.Proofs.Ytjnmpejcegmkhab

namespace Go.Proofs.Ytjnmpejcegmkhab
open Go.RowKit

/-- In the midst of a round. -/
def QSt (W : World) (B hb : Nat) (c : Conf) (n : Nat) (liv : List Nat) (l0 : Lay × Nat) (dn : List Nat) : Prop :=
  ∃ S P, KSt W B hb c S P ∧ AOk c S.L ∧ S.L.procs.length = n ∧ MR c l0.1 S.L dn l0.2 ∧ ∀ i, (hi : i < S.L.procs.length) → i ∉ liv → (S.L.procs[i]).2.phase = 20
/-- Between two rounds. -/
def QR (W : World) (B hb : Nat) (c : Conf) (n : Nat) (liv : List Nat) (k : Nat) : Prop :=
  ∃ S P, KSt W B hb c S P ∧ AOk c S.L ∧ S.L.procs.length = n ∧ ER c S.L k ∧ ∀ i, (hi : i < S.L.procs.length) → i ∉ liv → (S.L.procs[i]).2.phase = 20

theorem QSt.below {W W' : World} {B hb : Nat} {c : Conf} {n : Nat} {liv : List Nat} {l0 : Lay × Nat} {dn : List Nat} (h : QSt W B hb c n liv l0 dn) (hb' : Below W.heap.size W W') : QSt W' B hb c n liv l0 dn := by
  obtain ⟨S, P, a, r⟩ := h
  exact ⟨S, P, a.below hb', r⟩
theorem QR.below {W W' : World} {B hb : Nat} {c : Conf} {n : Nat} {liv : List Nat} {k : Nat} (h : QR W B hb c n liv k) (hb' : Below W.heap.size W W') : QR W' B hb c n liv k := by
  obtain ⟨S, P, a, r⟩ := h
  exact ⟨S, P, a.below hb', r⟩

theorem QR.round {W : World} {B hb : Nat} {c : Conf} {n : Nat} {liv : List Nat} {k : Nat} (h : QR W B hb c n liv k) : ∃ l0 : Lay × Nat, l0.1.procs.length = n ∧ l0.2 = k ∧ QSt W B hb c n liv l0 [] := by
  obtain ⟨S, P, a, b, d, e, f⟩ := h
  exact ⟨(S.L, k), d, rfl, S, P, a, b, d, e.round a.rel b, f⟩

theorem QSt.done {W : World} {B hb : Nat} {c : Conf} {n : Nat} {liv : List Nat} {l0 : Lay × Nat} {dn : List Nat} {k : Nat} (h : QSt W B hb c n liv l0 dn) (h0 : l0.2 = k) (hall : ∀ x, x ∈ liv → x ∈ dn) : QR W B hb c n liv (k + 1) := by
  obtain ⟨S, P, a, b, d, e, f⟩ := h
  rw [h0] at e
  refine ⟨S, P, a, b, d, e.done a.rel (fun j hj => ?_), f⟩
  have hj' : j < S.L.procs.length := by rw [toPPs_len] at hj; exact hj
  by_cases hm : j ∈ liv
  · exact Or.inl (hall j hm)
  · right
    rw [toPPs_at _ _ hj' hj]
    exact f j hj' hm

theorem QSt.at {W : World} {B hb : Nat} {c : Conf} {n : Nat} {liv : List Nat} {l0 : Lay × Nat} {dn : List Nat} (h : QSt W B hb c n liv l0 dn) (i : Nat) (hi : i < n) :
    ∃ ph nd vl : Int, (∀ W', Below W.heap.size W W' → Calls Try.prog 16 #[.pointer (some ⟨hb, 0, none⟩), I i] W' fun e w' => e = .returned (.agg #[I ph, I nd, I vl]) ∧ Below W'.heap.size W' w') ∧
      (ph = 20 → QSt W B hb c n liv l0 (i :: dn)) ∧ (ph ≠ 20 → ∀ W', Below W.heap.size W W' → ∀ draw : Int, Calls Try.prog 25 #[.pointer (some ⟨hb, 0, none⟩), I i, I draw] W' fun e w' => e = .returned (.bool true) ∧ QSt w' B hb c n liv l0 (i :: dn) ∧ ChgT B KS W' w') := by
  obtain ⟨S, P, a, b, d, e, f⟩ := h
  subst d
  refine ⟨(S.L.procs[i]).2.phase, (S.L.procs[i]).2.node, (S.L.procs[i]).2.val, fun W' hw => a.at hw i hi, fun h20 => ?_, fun h20 W' hw draw => ?_⟩
  · exact ⟨S, P, a, b, rfl, e.skip i hi h20, f⟩
  · refine (hstep2_c (a.below hw) (i : Int) draw).mono ?_
    rintro x w' ⟨rfl, ⟨P', hk⟩, hc⟩
    refine ⟨rfl, ?_, hc⟩
    have eg : gstep S i draw = ⟨lstep S.L i draw, S.ops, S.went.set i true⟩ := by
      unfold gstep
      rw [if_pos ⟨by omega, by omega, by rw [Int.toNat_natCast, phaseAt_eq S.L i hi]; exact h20⟩, Int.toNat_natCast]
    rw [eg] at hk
    obtain ⟨v, q', _, hp, _, _⟩ := a.rel.sq b.x.pat hi h20 draw
    have hlen : (lstep S.L i draw).procs.length = S.L.procs.length := by
      have := congrArg List.length hp
      simpa [toPPs] using this
    refine ⟨_, P', hk, AOk.step a.rel b hi h20 draw, hlen, ?_, fun j hj hnm => ?_⟩
    · exact e.step a.rel b hi h20 draw
    · have hj' : j < (lstep S.L i draw).procs.length := hj
      have hj0 : j < S.L.procs.length := by omega
      have h20j := f j hj0 hnm
      have hne : j ≠ i := by
        intro e
        subst e
        exact h20 h20j
      have e1 : (toPPs (lstep S.L i draw).procs)[j]? = (toPPs S.L.procs)[j]? := by
        rw [hp, List.getElem?_set_ne (Ne.symm hne)]
      have e2 : (toPPs (lstep S.L i draw).procs)[j]? = some (toPP ((lstep S.L i draw).procs[j]).2) := by simp [toPPs, hj']
      have e3 : (toPPs S.L.procs)[j]? = some (toPP (S.L.procs[j]).2) := by simp [toPPs, hj0]
      rw [e2, e3] at e1
      have := pp_told (Option.some.inj e1)
      show ((lstep S.L i draw).procs[j]).2.phase = 20
      rw [this.2.2.2.1]
      exact h20j

theorem QSt.start {W : World} {B hb : Nat} {c : Conf} {S : Gh} {P : PLay} (h : KSt W B hb c S P) (pk : AOk c S.L) : QR W B hb c S.L.procs.length (livTo S.L.procs S.L.procs.length) 0 :=
  ⟨S, P, h, pk, rfl, ER.start h.rel pk, fun i hi hn => livTo_no S.L.procs _ i hi hi hn⟩

theorem QR.all {W : World} {B hb : Nat} {c : Conf} {n : Nat} {liv : List Nat} {k : Nat} (h : QR W B hb c n liv k) (hk : calmR c ≤ k) : ∃ S P, KSt W B hb c S P ∧ AOk c S.L ∧ S.L.procs.length = n ∧ FR c S.L := by
  obtain ⟨S, P, a, b, d, e, f⟩ := h
  exact ⟨S, P, a, b, d, e.fin a.rel b hk⟩
theorem QR.none {W : World} {B hb : Nat} {c : Conf} {n : Nat} {k : Nat} (h : QR W B hb c n [] k) : ∃ S P, KSt W B hb c S P ∧ AOk c S.L ∧ S.L.procs.length = n ∧ FR c S.L := by
  obtain ⟨S, P, a, b, d, e, f⟩ := h
  exact ⟨S, P, a, b, d, FR.none fun i hi => f i hi (by simp)⟩

end Go.Proofs.Ytjnmpejcegmkhab

namespace Go.Proofs.Ytjnmpejcegmkhab
open Go.RowKit

/-- Which of n things the raw number x speaks of. -/
def pickV (x : Int) (n : Nat) : Nat := ((if x < 0 then -(x + 1) else x) % (n : Int)).toNat
theorem pickV_lt (x : Int) (n : Nat) (hn : 1 ≤ n) : pickV x n < n := by
  unfold pickV
  have := Int.emod_lt_of_pos (if x < 0 then -(x + 1) else x) (show 0 < (n : Int) by omega)
  have := Int.emod_nonneg (if x < 0 then -(x + 1) else x) (show (n : Int) ≠ 0 by omega)
  omega

theorem pick_f (x : Int) (hx0 : -9223372036854775808 ≤ x) (n : Nat) (hn : 1 ≤ n) (hn9 : n ≤ 2000000000000) (w : World) : Calls Try.prog 18 #[I x, I n] w fun e w' => e = .returned (I (pickV x n)) ∧ w' = w := by
  have hne : ((n : Int) == 0) = false := by simp; omega
  by_cases hx : x < 0
  · have hv : 0 ≤ -(x + 1) := by omega
    have HR : Hid (-((x + 1).tmod n) = ((pickV x n : Nat) : Int)) := by
      show _ = _
      unfold pickV
      rw [if_pos hx, ← Int.neg_tmod, Int.tmod_eq_emod_of_nonneg hv]
      have := Int.emod_nonneg (-(x + 1)) (show (n : Int) ≠ 0 by omega)
      omega
    generalize pickV x n = pk at *
    go_enter Try.func18, Try.ntmps18
    go_wp2
    go_ret
    exact ⟨ret_i HR.out, rfl⟩
  · have hd : decide (x < 0) = false := by simp; omega
    have HR : Hid (x % n = ((pickV x n : Nat) : Int)) := by
      show _ = _
      unfold pickV
      rw [if_neg hx]
      have := Int.emod_nonneg x (show (n : Int) ≠ 0 by omega)
      omega
    generalize pickV x n = pk at *
    go_enter Try.func18, Try.ntmps18
    go_wp2
    go_ret
    exact ⟨ret_i HR.out, rfl⟩

/-- A list of raw numbers that lies below B. -/
structure PicksAt (w : World) (B : Nat) (v : Value) (n : Nat) (f : Nat → Int) : Prop where
  form : ∃ ao cap, v = .slice ao n cap ∧ n ≤ cap ∧ n ≤ maxLen ∧ ∀ i, i < n → -9223372036854775808 ≤ f i ∧ ∃ b off, ao = some ⟨b, off, none⟩ ∧ b < B ∧ b < w.heap.size ∧ w.cell? ⟨b, off + i, none⟩ = some (I (f i))

def natI (l : List Nat) : List Int := l.map (fun x : Nat => Int.ofNat x)

/-- Whom the first i turns of a round have met. -/
def MetBy (liv dn : List Nat) (f : Nat) (up : Bool) (i : Nat) : Prop :=
  ∀ t, t < i → t < liv.length → ∃ x, liv[if up then (f + t) % liv.length else (f + liv.length - t) % liv.length]? = some x ∧ x ∈ dn
theorem MetBy.all {liv dn : List Nat} {f : Nat} {up : Bool} (hf : f < liv.length) (h : MetBy liv dn f up liv.length) : ∀ x, x ∈ liv → x ∈ dn := by
  intro x hx
  obtain ⟨t, ht, rfl⟩ := List.getElem_of_mem hx
  cases up
  · obtain ⟨i, hi, e⟩ := turn_down liv.length f t hf ht
    obtain ⟨y, h1, h2⟩ := h i hi hi
    simp only [Bool.false_eq_true, if_false, e] at h1
    rw [List.getElem?_eq_getElem ht] at h1
    simp only [Option.some.injEq] at h1
    rw [h1]; exact h2
  · obtain ⟨i, hi, e⟩ := turn_up liv.length f t hf ht
    obtain ⟨y, h1, h2⟩ := h i hi hi
    simp only [if_true, e] at h1
    rw [List.getElem?_eq_getElem ht] at h1
    simp only [Option.some.injEq] at h1
    rw [h1]; exact h2
theorem MetBy.more {liv dn : List Nat} {f : Nat} {up : Bool} {i : Nat} (h : MetBy liv dn f up i) (x : Nat) (hx : i < liv.length → liv[if up then (f + i) % liv.length else (f + liv.length - i) % liv.length]? = some x) : MetBy liv (x :: dn) f up (i + 1) := by
  intro t ht htl
  by_cases e : t = i
  · subst e
    exact ⟨x, hx htl, by simp⟩
  · obtain ⟨y, h1, h2⟩ := h t (by omega) htl
    exact ⟨y, h1, by simp [h2]⟩
theorem MetBy.same {liv dn : List Nat} {f : Nat} {up : Bool} {i : Nat} (h : MetBy liv dn f up i) (hi : liv.length ≤ i) : MetBy liv dn f up (i + 1) := by
  intro t ht htl
  exact h t (by omega) htl

theorem KSt.confAt {w : World} {B hb : Nat} {c : Conf} {S : Gh} {P : PLay} (h : KSt w B hb c S P) : w.cell? ⟨hb, 1, none⟩ = some (I c.kind) ∧ w.cell? ⟨hb, 2, none⟩ = some (I c.depth) ∧ w.cell? ⟨hb, 3, none⟩ = some (I c.start) ∧ w.cell? ⟨hb, 4, none⟩ = some (I c.slots) ∧ w.cell? ⟨hb, 5, none⟩ = some (I c.width) ∧ w.cell? ⟨hb, 6, none⟩ = some (I c.spin) ∧ w.cell? ⟨hb, 7, none⟩ = some (I c.drain) ∧ w.cell? ⟨hb, 8, none⟩ = some (I c.procs) := by
  obtain ⟨ov, wv, a, b, _⟩ := h.rep.blk
  have e := h.rel.rel.cP
  have f := (nb_facts a).1
  rw [← e]
  exact ⟨by rw [f 1]; rfl, by rw [f 2]; rfl, by rw [f 3]; rfl, by rw [f 4]; rfl, by rw [f 5]; rfl, by rw [f 6]; rfl, by rw [f 7]; rfl, by rw [f 8]; rfl⟩

end Go.Proofs.Ytjnmpejcegmkhab

namespace Go.Proofs.Ytjnmpejcegmkhab
open Go.RowKit

set_option maxHeartbeats 16000000 in
set_option maxRecDepth 100000 in
theorem kqsettle_c {w : World} {B hb : Nat} {c : Conf} {S : Gh} {P : PLay} (h : KSt w B hb c S P) (pk : AOk c S.L) (pv : Value) (m : Nat) (pf : Nat → Int) (hpk : PicksAt w B pv m pf) :
    Calls Try.prog 11 #[.pointer (some ⟨hb, 0, none⟩), pv] w fun e w' => e = .returned (.bool true) ∧ (∃ S' P', KSt w' B hb c S' P' ∧ AOk c S'.L ∧ S'.L.procs.length = S.L.procs.length ∧ FR c S'.L) ∧ Below B w w' := by
  obtain ⟨ap, cp, rfl, p1, p2, HP⟩ := hpk.form
  have HSR : Hid (∀ W, Below w.heap.size w W → QR W B hb c S.L.procs.length (livTo S.L.procs S.L.procs.length) 0) := fun W hw => QSt.start (h.below hw) pk
  have HAT : Hid (∀ W, Below w.heap.size w W → ∀ p, (hp : p < S.L.procs.length) → Calls Try.prog 16 #[.pointer (some ⟨hb, 0, none⟩), I p] W fun e w' => e = .returned (.agg #[I (S.L.procs[p]).2.phase, I (S.L.procs[p]).2.node, I (S.L.procs[p]).2.val]) ∧ Below W.heap.size W w') := fun W hw p hp => h.at hw p hp
  obtain ⟨ao9, cap9, c9, q1, q2, q3⟩ := h.opsAt
  have l0 := cell_lt c9
  have HBW : Hid (B ≤ w.heap.size) := h.hB
  have HMY : Hid (mayC c = true) := h.rel.rel.may
  have HPP : Hid _ := HP
  unfold maxLen at p2 q3
  clear h pk hpk HP
  generalize S.L.procs = ps at *
  obtain ⟨i0, hi, hz0, hz1, hz2⟩ := info_parts Try.info3
  go_enter Try.func11, Try.ntmps11
  go_wp2_with fail
  go_loopw [5, 6, 7] (fun xx pp _ wr => ∃ q : Nat, q ≤ ps.length ∧ pp = .int .i64 q ∧ wr.ownsRow w.heap.size 3 1 xx (livTo ps q).length ((natI (livTo ps q)).map I) ∧ Below w.heap.size w wr) (fun _ pp _ _ => ps.length - (intOf pp).toNat)
  case atStart => exact ⟨0, Nat.zero_le _, rfl, World.ownsRow_nil _ _ _ _, Below.refl _ _⟩
  case round =>
    obtain ⟨q, hq, rfl, hown, hbr⟩ := hrel
    have d9 := (hbr.cell (p := ⟨hb, 9, none⟩) l0).trans c9
    have ld := cell_lt d9
    by_cases hlt : q < ps.length
    · have ha := HAT.out _ hbr q hlt
      have HLV : Hid (livTo ps (q + 1) = livTo ps q ++ if (ps[q]).2.phase = 20 then [] else [q]) := by show _ = _; simp [livTo, hlt]
      have hll := livTo_len ps q
      generalize (ps[q]).2.phase = ph at *
      generalize (ps[q]).2.node = nd at *
      generalize (ps[q]).2.val = vl at *
      replace ha : Hid _ := ha
      have bq : decide ((q : Int) < (ps.length : Int)) = true := decide_eq_true (by omega)
      clear HPP
      go_wp2_with fail
      refine Calls.mono ha.out ?_
      rintro e w1 ⟨rfl, hb1⟩
      have hb2 : Below w.heap.size w w1 := hbr.trans (hb1.mono hbr.size)
      have hown1 := ownsRow_below hown hb1 (Nat.le_refl _)
      have hsz := hb2.size
      have hb3 : Below w.heap.size w (w1.alloc (.cells #[I ph, I nd, I vl] 48)) := hb2.alloc hsz _
      clear hb1 hown ha
      by_cases e20 : ph = 20
      · subst e20
        have HL2 : Hid (livTo ps (q + 1) = livTo ps q) := by show _ = _; rw [HLV.out]; simp
        clear HLV
        go_wp2_with fail
        go_roundw
        case rel => exact ⟨q + 1, by omega, by go_num, by rw [HL2.out]; exact hown1.alloc _, hb3⟩
        case measure => simp [intOf]; omega
      · have b20 : (ph != 20) = true := by rw [bne_iff_ne]; exact e20
        have HL2 : Hid (livTo ps (q + 1) = livTo ps q ++ [q]) := by show _ = _; rw [HLV.out, if_neg e20]
        clear HLV e20
        go_wp2_with (at_builtin; refine wpList_append_own _ rfl _ _ 25 rfl w.heap.size 3 i0 (.int .i64 0) 1 8 Try.underlying25 hi hz0 hz1 hz2 rfl (by decide) _ _ _ rfl ((hown1.alloc _).alloc _) ⟨w1.heap.size + 1, 0, none⟩ 1 1 [.int .i64 q] rfl rfl ?c1 ?c2 ?c3 ?c4 ?c5 ?_)
        case c1 => exact cells_new_at (w1.alloc (.cells #[I ph, I nd, I vl] 48)) [I q] 3 (w1.heap.size + 1) (by simp)
        case c2 => intro u hu; simp at hu; subst hu; rfl
        case c3 => unfold maxLen; omega
        case c4 => omega
        case c5 => simp; omega
        · intro x' w3 hown' hgrow _
          have hb4 : Below w.heap.size w w3 := (hb3.alloc (by simp; omega) _).grown hgrow (by simp; omega) (by
            intro j hj
            exact (hown1.lt j hj).1)
          clear hgrow hown1
          go_wp2_with fail
          go_roundw
          case rel => exact ⟨q + 1, by omega, by go_num, by rw [HL2.out]; simpa [natI] using hown', hb4⟩
          case measure => simp [intOf]; omega
    · have eq : q = ps.length := by omega
      subst eq
      have HS0 := HSR.out _ hbr
      have HLT : Hid (∀ x, x ∈ livTo ps ps.length → x < ps.length) := fun x hx => (livTo_lt ps ps.length x hx).2
      have hlv := livTo_len ps ps.length
      have bq : decide ((ps.length : Int) < (ps.length : Int)) = false := decide_eq_false (by omega)
      obtain ⟨al, cl, el, r1, r2, r3, HWt⟩ := row_cells hown
      subst el
      have HOW : Hid _ := hown
      have HS1 : Hid (QR wr B hb c ps.length (livTo ps ps.length) 0) := HS0
      have HBR : Hid _ := hbr
      have HKC : Hid (∀ W, Calls Try.prog 30 #[.agg #[I c.kind, I c.depth, I c.start, I c.slots, I c.width, I c.spin, I c.drain, I c.procs]] W fun e w' => e = .returned (I (calmR c)) ∧ Below W.heap.size W w') := fun W => kcalm_c c HMY.out W
      have hR : 0 ≤ calmR c ∧ calmR c ≤ 1000 := by
        have hm := HMY.out
        have hc : 0 ≤ c.depth ∧ c.depth ≤ 4 ∧ 0 ≤ c.spin ∧ c.spin ≤ 8 ∧ 0 ≤ c.drain ∧ c.drain ≤ 16 ∧ 1 ≤ c.procs ∧ c.procs ≤ 16 := by simp [mayC] at hm; omega
        have b1 : (c.procs + 1) * (c.drain + 8) ≤ 17 * 24 := Int.mul_le_mul (by omega) (by omega) (by omega) (by omega)
        have b2 : 0 ≤ (c.procs + 1) * (c.drain + 8) := Int.mul_nonneg (by omega) (by omega)
        have b3 : (c.depth + 1) * (c.spin + 12) ≤ 5 * 20 := Int.mul_le_mul (by omega) (by omega) (by omega) (by omega)
        have b4 : 0 ≤ (c.depth + 1) * (c.spin + 12) := Int.mul_nonneg (by omega) (by omega)
        unfold calmR
        omega
      unfold maxLen at r2
      clear HSR HAT hown HS0 hbr HWt hi hz0 hz1 hz2 c9
      generalize livTo ps ps.length = liv at *
      have hnp : ps.length ≤ 256 := q2
      generalize hnn : ps.length = n at *
      have HNN : Hid (n = ps.length) := hnn.symm
      clear hnn
      generalize hRR : calmR c = R at *
      replace hRR : Hid _ := hRR
      go_wp2_with fail
      generalize wr = w1 at *
      go_loopw [8, 9, 10, 11, 12, 13, 14] (fun kk _ _ _ _ _ _ wk => ∃ k : Nat, (k : Int) ≤ R ∧ kk = .int .i64 k ∧ Hid (QR wk B hb c n liv k) ∧ Hid (ChgT B KS w1 wk)) (fun kk _ _ _ _ _ _ _ => (R - intOf kk).toNat)
      case atStart => exact ⟨0, by omega, rfl, HS1.out, ChgT.refl _ _ _⟩
      case round =>
        obtain ⟨k, hk, rfl, hsr, hch⟩ := hrel
        obtain ⟨S1, P1, hk1, _⟩ := hsr.out
        obtain ⟨g1, g2, g3, g4, g5, g6, g7, g8⟩ := hk1.confAt
        have lg := cell_lt g1
        clear hk1
        go_wp2_with fail
        refine Calls.mono (HKC.out _) ?_
        rintro e w2 ⟨rfl, hb2⟩
        have hsr2 : Hid (QR w2 B hb c n liv k) := QR.below hsr.out hb2
        have hch2 : Hid (ChgT B KS w1 w2) := hch.out.trans (ChgT.of_below hb2)
        have HFIN : Hid (Below B w w2) := (HBR.out.mono HBW.out).trans (hch2.out.below (Nat.le_trans HBW.out HBR.out.size))
        clear g1 g2 g3 g4 g5 g6 g7 g8 lg hb2 hsr hch
        by_cases hkR : (k : Int) < R
        · have bk : decide ((k : Int) < R) = true := decide_eq_true hkR
          by_cases hl0 : liv.length = 0
          · have bl : decide ((0 : Int) < (liv.length : Int)) = false := decide_eq_false (by omega)
            have bl2 : decide (0 < liv.length) = false := decide_eq_false (by omega)
            have eliv : liv = [] := List.eq_nil_of_length_eq_zero hl0
            have HE : Hid _ := eliv
            clear eliv hl0
            go_wp2_with fail
            go_ret
            have hz := hsr2.out
            rw [HE.out] at hz
            obtain ⟨S9, P9, z1, z2, z3, z4⟩ := QR.none hz
            exact ⟨rfl, ⟨S9, P9, z1, z2, z3.trans HNN.out, z4⟩, HFIN.out⟩
          · have bl : decide ((0 : Int) < (liv.length : Int)) = true := decide_eq_true (by omega)
            have bl2 : decide (0 < liv.length) = true := decide_eq_true (by omega)
            have bl3 : 0 < liv.length := by omega
            obtain ⟨l0, hl0n, h0, hst⟩ := QR.round hsr2.out
            have H0 : Hid _ := h0
            have HST : Hid (QSt w2 B hb c n liv l0 []) := hst
            have hpick : Hid (∀ x : Int, -9223372036854775808 ≤ x → ∀ W, Calls Try.prog 18 #[I x, I liv.length] W fun e w' => e = .returned (I (pickV x liv.length)) ∧ w' = W) := fun x hx W => pick_f x hx liv.length (by omega) (by omega) W
            have hp40 : Hid (∀ x : Int, -9223372036854775808 ≤ x → ∀ W, Calls Try.prog 18 #[I x, .int .i64 1099511627776] W fun e w' => e = .returned (I (pickV x 1099511627776)) ∧ w' = W) := fun x hx W => pick_f x hx 1099511627776 (by omega) (by omega) W
            have hp5 : Hid (∀ x : Int, -9223372036854775808 ≤ x → ∀ W, Calls Try.prog 18 #[I x, .int .i64 5] W fun e w' => e = .returned (I (pickV x 5)) ∧ w' = W) := fun x hx W => pick_f x hx 5 (by omega) (by omega) W
            clear hst h0 hsr2
            go_upto_if 50 with fail
            go_cut [9] (fun s9 wx => ∃ xv : Int, s9 = I xv ∧ -9223372036854775808 ≤ xv ∧ wx = w2)
            case first =>
              by_cases hm0 : m = 0
              · have bm : decide ((0 : Int) < (m : Int)) = false := decide_eq_false (by omega)
                go_wp2_with fail
                go_meet
                exact ⟨0, rfl, by omega, rfl⟩
              · have bm : decide ((0 : Int) < (m : Int)) = true := decide_eq_true (by omega)
                have hkm : k % m < m := Nat.mod_lt _ (by omega)
                obtain ⟨fx, b, off, rfl, lb, lw, cb⟩ := HPP.out (k % m) hkm
                have cb2 : w2.cell? ⟨b, off + k % m, none⟩ = some (I (pf (k % m))) := (HFIN.out.cell (p := ⟨b, off + k % m, none⟩) lb).trans cb
                generalize pf (k % m) = xv at *
                have bm0 : ((m : Int) == 0) = false := by rw [beq_eq_false_iff_ne]; omega
                have hm1 : 0 ≤ (k : Int) % (m : Int) := Int.emod_nonneg _ (by omega)
                have hm2 : (k : Int) % (m : Int) < (m : Int) := Int.emod_lt_of_pos _ (by omega)
                have bm2 : decide (0 < m) = true := decide_eq_true (by omega)
                go_wp2_with fail
                go_meet
                exact ⟨xv, rfl, fx, rfl⟩
            case rest =>
              obtain ⟨xv, rfl, hxv, rfl⟩ := hcut
              have hpi := hpick.out xv hxv
              have hpL := pickV_lt xv liv.length (by omega)
              have hp4 := hp40.out xv hxv
              have hp55 := hp5.out xv hxv
              generalize pickV xv liv.length = f at *
              generalize pickV xv 1099511627776 = r40 at *
              generalize pickV xv 5 = r5 at *
              replace hpi : Hid _ := hpi
              replace hp4 : Hid _ := hp4
              replace hp55 : Hid _ := hp55
              clear hpick hp40 hp5 HPP HKC HS1
              go_wp2_with fail
              refine Calls.mono (hpi.out _) ?_
              rintro e w3 ⟨rfl, rfl⟩
              go_wp2_with fail
              go_loopw [11, 12, 13, 14] (fun ii _ _ _ wq => ∃ i : Nat, i ≤ liv.length + 1 ∧ ii = .int .i64 i ∧ ∃ dn, Hid (QSt wq B hb c n liv l0 dn) ∧ Hid (MetBy liv dn f (decide (r40 % 3 ≠ 1)) i) ∧ Hid (ChgT B KS w1 wq)) (fun ii _ _ _ _ => liv.length + 1 - (intOf ii).toNat)
              case atStart => exact ⟨0, Nat.zero_le _, rfl, [], HST.out, fun t ht => absurd ht (Nat.not_lt_zero _), hch2.out⟩
              case round =>
                obtain ⟨i, hi, rfl, dn, hst, hmet, hch⟩ := hrel
                by_cases hil : i ≤ liv.length
                · have bi : decide ((i : Int) ≤ (liv.length : Int)) = true := decide_eq_true (by omega)
                  have hcm := ((hch.out.row HOW.out (by decide)))
                  obtain ⟨al', cl', el', _, _, _, HC⟩ := row_cells hcm
                  simp only [Value.slice.injEq, true_and] at el'
                  obtain ⟨rfl, rfl⟩ := el'
                  have hup : (f + i) % liv.length < liv.length := Nat.mod_lt _ (by omega)
                  have hdn : (f + liv.length - i) % liv.length < liv.length := Nat.mod_lt _ (by omega)
                  have rd : ∀ t, (ht : t < liv.length) → ∃ g, al = some ⟨g, 0, none⟩ ∧ wr.cell? ⟨g, t, none⟩ = some (I ((liv[t] : Nat) : Int)) ∧ liv[t] < n := by
                    intro t ht
                    obtain ⟨g, e, _, cg⟩ := HC t (by simpa [natI] using ht)
                    refine ⟨g, e, ?_, HLT.out _ (List.getElem_mem _)⟩
                    rw [cg]
                    simp [natI]
                  obtain ⟨g, rfl, cu, nu⟩ := rd _ hup
                  obtain ⟨g', eg, cd, nd⟩ := rd _ hdn
                  simp only [Option.some.injEq, Addr.mk.injEq, and_true] at eg
                  subst eg
                  have lgu := cell_lt cu
                  have HU : Hid (liv[(f + i) % liv.length]? = some liv[(f + i) % liv.length]) := List.getElem?_eq_getElem hup
                  have HD : Hid (liv[(f + liv.length - i) % liv.length]? = some liv[(f + liv.length - i) % liv.length]) := List.getElem?_eq_getElem hdn
                  generalize liv[(f + i) % liv.length] = xu at *
                  generalize liv[(f + liv.length - i) % liv.length] = xd at *
                  clear rd HC hcm
                  have m1 : 0 ≤ ((f : Int) + (i : Int)) % (liv.length : Int) := Int.emod_nonneg _ (by omega)
                  have m2 : ((f : Int) + (i : Int)) % (liv.length : Int) < (liv.length : Int) := Int.emod_lt_of_pos _ (by omega)
                  have bl0 : ((liv.length : Int) == 0) = false := by rw [beq_eq_false_iff_ne]; omega
                  go_wp2_with fail
                  refine Calls.mono (hp4.out _) ?_
                  rintro e w5 ⟨rfl, rfl⟩
                  have m3 : 0 ≤ ((f : Int) + (liv.length : Int) - (i : Int)) % (liv.length : Int) := Int.emod_nonneg _ (by omega)
                  have m4 : ((f : Int) + (liv.length : Int) - (i : Int)) % (liv.length : Int) < (liv.length : Int) := Int.emod_lt_of_pos _ (by omega)
                  go_upto_if 80 with fail
                  go_cut [12] (fun s12 wx => ∃ x : Nat, s12 = I x ∧ x < n ∧ Hid (liv[if decide (r40 % 3 ≠ 1) then (f + i) % liv.length else (f + liv.length - i) % liv.length]? = some x) ∧ wx = w5)
                  case first =>
                    by_cases e3 : r40 % 3 = 1
                    · have b3 : ((r40 : Int) % 3 == 1) = true := by rw [beq_iff_eq]; omega
                      go_wp2_with fail
                      go_meet
                      exact ⟨xd, rfl, nd, by show _ = _; simp [e3]; exact HD.out, rfl⟩
                    · have b3 : ((r40 : Int) % 3 == 1) = false := by rw [beq_eq_false_iff_ne]; omega
                      go_wp2_with fail
                      go_meet
                      exact ⟨xu, rfl, nu, by show _ = _; simp [e3]; exact HU.out, rfl⟩
                  case rest =>
                    clear cu nu HU cd nd HD m1 m2 m3 m4 lgu hp4 hup hdn
                    obtain ⟨x, rfl, hxn, hxl, rfl⟩ := hcut
                    obtain ⟨ph, nd, vl, hat, hsk, hstp⟩ := QSt.at hst.out x hxn
                    have hat0 := hat _ (Below.refl _ _)
                    replace hat0 : Hid _ := hat0
                    replace hsk : Hid _ := hsk
                    replace hstp : Hid _ := hstp
                    clear hat
                    go_wp2_with fail
                    refine Calls.mono hat0.out ?_
                    rintro e w6 ⟨rfl, hb6⟩
                    have hb7 : Below wc.heap.size wc (w6.alloc (.cells #[I ph, I nd, I vl] 48)) := hb6.alloc hb6.size _
                    clear hat0 hb6
                    by_cases e20 : ph = 20
                    · have hs9 : Hid (QSt (w6.alloc (.cells #[I ph, I nd, I vl] 48)) B hb c n liv l0 (x :: dn)) := QSt.below (hsk.out e20) hb7
                      have hc9 : Hid (ChgT B KS w1 (w6.alloc (.cells #[I ph, I nd, I vl] 48))) := hch.out.trans (ChgT.of_below hb7)
                      subst e20
                      go_wp2_with fail
                      go_roundw
                      case rel => exact ⟨i + 1, by omega, by go_num, x :: dn, hs9.out, MetBy.more hmet.out x (fun _ => hxl.out), hc9.out⟩
                      case measure => simp [intOf]; omega
                    · have b20 : (ph == 20) = false := by rw [beq_eq_false_iff_ne]; exact e20
                      have hs9 : Hid (QSt (w6.alloc (.cells #[I ph, I nd, I vl] 48)) B hb c n liv l0 dn) := QSt.below hst.out hb7
                      have hc9 : Hid (ChgT B KS w1 (w6.alloc (.cells #[I ph, I nd, I vl] 48))) := hch.out.trans (ChgT.of_below hb7)
                      have hcl : Hid (∀ draw : Int, Calls Try.prog 25 #[.pointer (some ⟨hb, 0, none⟩), I x, I draw] (w6.alloc (.cells #[I ph, I nd, I vl] 48)) fun e w' => e = .returned (.bool true) ∧ QSt w' B hb c n liv l0 (x :: dn) ∧ ChgT B KS (w6.alloc (.cells #[I ph, I nd, I vl] 48)) w') := fun draw => hstp.out e20 _ hb7 draw
                      clear hsk hstp e20
                      by_cases ei : i = liv.length
                      · have be : ((i : Int) == (liv.length : Int)) = true := by rw [beq_iff_eq]; omega
                        have HEI : Hid (i = liv.length) := ei
                        clear ei
                        go_wp2_with fail
                        refine Calls.mono (hp55.out _) ?_
                        rintro e w7 ⟨rfl, rfl⟩
                        by_cases e5 : r5 = 2
                        · have b5 : ((r5 : Int) != 2) = false := by rw [bne_eq_false_iff_eq]; omega
                          go_wp2_with fail
                          refine Calls.mono (hcl.out _) ?_
                          rintro e w8 ⟨rfl, hs8, hc8⟩
                          have HS8 : Hid (QSt w8 B hb c n liv l0 (x :: dn)) := hs8
                          have HC8 : Hid (ChgT B KS w1 w8) := hc9.out.trans hc8
                          clear hcl hs8 hc8 hs9 hc9
                          go_wp2_with fail
                          go_roundw
                          case rel => exact ⟨i + 1, by omega, by go_num, x :: dn, HS8.out, MetBy.more hmet.out x (fun _ => hxl.out), HC8.out⟩
                          case measure => simp [intOf]; omega
                        · have b5 : ((r5 : Int) != 2) = true := by rw [bne_iff_ne]; omega
                          have HMS : Hid (MetBy liv dn f (decide (r40 % 3 ≠ 1)) (i + 1)) := MetBy.same hmet.out (by have := HEI.out; omega)
                          go_wp2_with fail
                          go_roundw
                          case rel => exact ⟨i + 1, by omega, by go_num, dn, hs9.out, HMS.out, hc9.out⟩
                          case measure => simp [intOf]; omega
                      · have be : ((i : Int) == (liv.length : Int)) = false := by rw [beq_eq_false_iff_ne]; omega
                        go_wp2_with fail
                        refine Calls.mono (hcl.out _) ?_
                        rintro e w8 ⟨rfl, hs8, hc8⟩
                        have HS8 : Hid (QSt w8 B hb c n liv l0 (x :: dn)) := hs8
                        have HC8 : Hid (ChgT B KS w1 w8) := hc9.out.trans hc8
                        clear hcl hs8 hc8 hs9 hc9
                        go_wp2_with fail
                        go_roundw
                        case rel => exact ⟨i + 1, by omega, by go_num, x :: dn, HS8.out, MetBy.more hmet.out x (fun _ => hxl.out), HC8.out⟩
                        case measure => simp [intOf]; omega
                · have bi : decide ((i : Int) ≤ (liv.length : Int)) = false := decide_eq_false (by omega)
                  have hdone : Hid (QR wr B hb c n liv (k + 1)) := QSt.done hst.out H0.out (MetBy.all hpL (fun t ht htl => hmet.out t (by omega) htl))
                  clear hst hmet
                  go_wp2_with fail
                  go_roundw
                  case rel => exact ⟨k + 1, by push_cast; omega, by go_num, hdone.out, hch.out⟩
                  case measure => simp [intOf]; omega
        · have bk : decide ((k : Int) < R) = false := decide_eq_false hkR
          go_wp2_with fail
          go_ret
          obtain ⟨S9, P9, z1, z2, z3, z4⟩ := QR.all hsr2.out (by rw [hRR.out]; omega)
          exact ⟨rfl, ⟨S9, P9, z1, z2, z3.trans HNN.out, z4⟩, HFIN.out⟩

end Go.Proofs.Ytjnmpejcegmkhab

namespace Go.Proofs.Ytjnmpejcegmkhab
open Go.RowKit

def isPut (p : Pr) : Bool := decide (p.kind = 1)
def isGet (p : Pr) : Bool := decide (p.kind = 2)
def in13 (p : Pr) : Bool := decide (p.phase = 13)
def in14 (p : Pr) : Bool := decide (p.phase = 14)
def FinPr (p : Pr) : Prop := (p.phase = 20 ∧ (3 ≤ p.kind → 1 ≤ p.val ∧ p.val ≤ 4)) ∨ (p.phase = 13 ∧ p.kind = 1) ∨ (p.phase = 14 ∧ p.kind = 2)

section
variable {c : Conf} {L : Lay} {P : PLay}

theorem fin_pr (h : CRel c L P) (z : AOk c L) (f : FR c L) (i : Nat) (hi : i < L.procs.length) : FinPr (L.procs[i]).2 := by
  have hcv := z.cv i hi
  rcases h.rel.confs.1 with k | k
  · have := f.c0 k i hi
    exact Or.inl ⟨this, fun x => hcv x (Or.inr this)⟩
  · have hp := fin_phase (f.c1 k) i hi
    have kd := (z.kd k).kd i hi
    rcases hp with x | x | x
    · exact Or.inl ⟨x, fun y => hcv y (Or.inr x)⟩
    · exact Or.inr (Or.inl ⟨x, kd.1 x⟩)
    · exact Or.inr (Or.inr ⟨x, kd.2 x⟩)

theorem fin_end (h : CRel c L P) (z : AOk c L) (f : FR c L) :
    ((cntTo in13 L.procs L.procs.length : Nat) : Int) = (if c.slots * 2 ^ c.depth.toNat < (cntTo isPut L.procs L.procs.length : Int) - (cntTo isGet L.procs L.procs.length : Int) then (cntTo isPut L.procs L.procs.length : Int) - (cntTo isGet L.procs L.procs.length : Int) - c.slots * 2 ^ c.depth.toNat else 0) ∧
    ((cntTo in14 L.procs L.procs.length : Nat) : Int) = (if (cntTo isPut L.procs L.procs.length : Int) - (cntTo isGet L.procs L.procs.length : Int) < 0 then -((cntTo isPut L.procs L.procs.length : Int) - (cntTo isGet L.procs L.procs.length : Int)) else 0) ∧
    (0 < cntTo in14 L.procs L.procs.length → (liesL (rnodes L)).length = 0) := by
  have e13 : ((cntTo in13 L.procs L.procs.length : Nat) : Int) = sumP is13 L.procs := by
    rw [cntTo_all]
    refine sumP_congr _ _ _ fun i hi => ?_
    unfold in13 is13
    simp
  have e14 : ((cntTo in14 L.procs L.procs.length : Nat) : Int) = sumP is14 L.procs := by
    rw [cntTo_all]
    refine sumP_congr _ _ _ fun i hi => ?_
    unfold in14 is14
    simp
  have hR : 0 < c.slots * 2 ^ c.depth.toNat := by
    have := room_pos h.rel.may 1
    have e : roomOf c 1 = c.slots * 2 ^ c.depth.toNat := by
      unfold roomOf
      have : Nat.log2 1 = 0 := by decide
      rw [this]
      simp
    omega
  rcases h.rel.confs.1 with k | k
  · have hk : ∀ i, (hi : i < L.procs.length) → (L.procs[i]).2.kind ≠ 1 ∧ (L.procs[i]).2.kind ≠ 2 := by
      intro i hi
      have := (h.rel.qs i hi).kind
      omega
    have eP : ((cntTo isPut L.procs L.procs.length : Nat) : Int) = 0 := by
      rw [cntTo_all]
      refine sumP_zero _ _ fun i hi => ?_
      unfold isPut
      simp [(hk i hi).1]
    have eG : ((cntTo isGet L.procs L.procs.length : Nat) : Int) = 0 := by
      rw [cntTo_all]
      refine sumP_zero _ _ fun i hi => ?_
      unfold isGet
      simp [(hk i hi).2]
    have z13 : sumP is13 L.procs = 0 := sumP_zero _ _ fun i hi => by
      have := f.c0 k i hi
      unfold is13
      rw [if_neg (by omega)]
    have z14 : sumP is14 L.procs = 0 := sumP_zero _ _ fun i hi => by
      have := f.c0 k i hi
      unfold is14
      rw [if_neg (by omega)]
    rw [e13, e14, eP, eG, z13, z14, if_neg (by omega), if_neg (by omega)]
    exact ⟨rfl, rfl, fun x => by omega⟩
  · obtain ⟨a, b, d⟩ := fin_excess h k z.x (z.tk k) (z.rm k) (f.c1 k)
    have eN : sumP (fun p => sgn p.kind) L.procs = (cntTo isPut L.procs L.procs.length : Int) - (cntTo isGet L.procs L.procs.length : Int) := by
      rw [cntTo_all, cntTo_all, ← sumP_mns]
      refine sumP_congr _ _ _ fun i hi => ?_
      have hk := (h.rel.qs i hi).kind
      unfold isPut isGet sgn
      have : (L.procs[i]).2.kind = 1 ∨ (L.procs[i]).2.kind = 2 ∨ (L.procs[i]).2.kind = 3 ∨ (L.procs[i]).2.kind = 4 := by omega
      rcases this with x | x | x | x <;> rw [x] <;> simp
    rw [eN] at a b
    rw [e13, e14]
    refine ⟨a, b, fun x => ?_⟩
    have := d (by omega)
    have hl := lies_lenN h L.past.length (Nat.le_refl _)
    have er : rnodesTo L L.past.length = rnodes L := rfl
    rw [er, this] at hl
    omega
end

end Go.Proofs.Ytjnmpejcegmkhab

namespace Go.Proofs.Ytjnmpejcegmkhab
open Go.RowKit

set_option maxHeartbeats 8000000 in
set_option maxRecDepth 100000 in
theorem kexcess_c {w : World} {B hb : Nat} {c : Conf} {S : Gh} {P : PLay} (h : KSt w B hb c S P) (z : AOk c S.L) (f : FR c S.L) :
    Calls Try.prog 12 #[.pointer (some ⟨hb, 0, none⟩)] w fun e w' => e = .returned (.bool true) ∧ Below w.heap.size w w' := by
  have HAT : Hid (∀ W, Below w.heap.size w W → ∀ p, (hp : p < S.L.procs.length) → Calls Try.prog 16 #[.pointer (some ⟨hb, 0, none⟩), I p] W fun e w' => e = .returned (.agg #[I (S.L.procs[p]).2.phase, I (S.L.procs[p]).2.node, I (S.L.procs[p]).2.val]) ∧ Below W.heap.size W w') := fun W hw p hp => h.at hw p hp
  have HFP : Hid (∀ i, (hi : i < S.L.procs.length) → FinPr (S.L.procs[i]).2) := fin_pr h.rel z f
  have hend := fin_end h.rel z f
  obtain ⟨ao9, cap9, c9, q1, q2, q3, HC9⟩ := h.opsAt2
  obtain ⟨_, c2, _, c4, _⟩ := h.confAt
  have hm := h.rel.rel.may
  have hcf : 0 ≤ c.depth ∧ c.depth ≤ 4 ∧ 1 ≤ c.slots ∧ c.slots ≤ 4 := by simp [mayC] at hm; omega
  have l0 := cell_lt c9
  have HOP : Hid _ := HC9
  unfold maxLen at q3
  have HEND : Hid _ := hend
  clear h z f HC9 hend hm
  generalize S.L.procs = ps at *
  generalize liesL (rnodes S.L) = ls at *
  have hch := fun (k : Int) W => changer_c k W
  have hwi := fun (v : Int) W => within_c v 1 4 W
  replace hch : Hid _ := hch
  replace hwi : Hid _ := hwi
  go_enter Try.func12, Try.ntmps12
  go_wp2_with fail
  go_loopw [3, 4, 5, 6, 7] (fun nn ss ff pp _ wr => ∃ q : Nat, q ≤ ps.length ∧ pp = .int .i64 q ∧ nn = .int .i64 ((cntTo isPut ps q : Int) - (cntTo isGet ps q : Int)) ∧ ss = .int .i64 (cntTo in13 ps q : Nat) ∧ ff = .int .i64 (cntTo in14 ps q : Nat) ∧ Below w.heap.size w wr) (fun _ _ _ pp _ _ => ps.length - (intOf pp).toNat)
  case atStart => exact ⟨0, Nat.zero_le _, rfl, rfl, rfl, rfl, Below.refl _ _⟩
  case round =>
    obtain ⟨q, hq, rfl, rfl, rfl, rfl, hbr⟩ := hrel
    have k1 := cntTo_le isPut ps q
    have k2 := cntTo_le isGet ps q
    have k3 := cntTo_le in13 ps q
    have k4 := cntTo_le in14 ps q
    have d9 := (hbr.cell (p := ⟨hb, 9, none⟩) l0).trans c9
    have ld := cell_lt d9
    by_cases hlt : q < ps.length
    · have hat := HAT.out _ hbr q hlt
      have hfp := HFP.out q hlt
      obtain ⟨g, rfl, lg, cg⟩ := HOP.out q hlt
      have bq : decide ((q : Int) < (ps.length : Int)) = true := decide_eq_true (by omega)
      have HB1 : Hid (cntTo isPut ps (q + 1) = cntTo isPut ps q + if (ps[q]).2.kind = 1 then 1 else 0) := by show _ = _; simp [cntTo, hlt, isPut]
      have HB2 : Hid (cntTo isGet ps (q + 1) = cntTo isGet ps q + if (ps[q]).2.kind = 2 then 1 else 0) := by show _ = _; simp [cntTo, hlt, isGet]
      have HB3 : Hid (cntTo in13 ps (q + 1) = cntTo in13 ps q + if (ps[q]).2.phase = 13 then 1 else 0) := by show _ = _; simp [cntTo, hlt, in13]
      have HB4 : Hid (cntTo in14 ps (q + 1) = cntTo in14 ps q + if (ps[q]).2.phase = 14 then 1 else 0) := by show _ = _; simp [cntTo, hlt, in14]
      unfold FinPr at hfp
      generalize hq1 : cntTo isPut ps (q + 1) = b1 at *
      generalize hq2 : cntTo isGet ps (q + 1) = u1 at *
      generalize hq3 : cntTo in13 ps (q + 1) = g1 at *
      generalize hq4 : cntTo in14 ps (q + 1) = h1 at *
      have HQ1 : Hid _ := hq1
      have HQ2 : Hid _ := hq2
      have HQ3 : Hid _ := hq3
      have HQ4 : Hid _ := hq4
      clear hq1 hq2 hq3 hq4
      generalize cntTo isPut ps q = b0 at *
      generalize cntTo isGet ps q = u0 at *
      generalize cntTo in13 ps q = g0 at *
      generalize cntTo in14 ps q = h0 at *
      clear HAT HOP HFP HEND c2 c4
      generalize (ps[q]).2.kind = kd at *
      generalize (ps[q]).2.phase = ph at *
      generalize (ps[q]).2.node = nd at *
      generalize (ps[q]).2.val = vl at *
      replace hat : Hid _ := hat
      replace hfp : Hid _ := hfp
      go_wp2_with fail
      refine Calls.mono hat.out ?_
      rintro e w3 ⟨rfl, hb4⟩
      have hb5 : Below w.heap.size w w3 := hbr.trans (hb4.mono hbr.size)
      have hb6 : Below w.heap.size w (w3.alloc (.cells #[I ph, I nd, I vl] 48)) := hb5.alloc hb5.size _
      have e9 := (hb6.cell (p := ⟨hb, 9, none⟩) l0).trans c9
      have cg2 := (hb6.cell (p := ⟨g, q * 3, none⟩) lg).trans cg
      have le := cell_lt e9
      have lg2 := cell_lt cg2
      have HB6 : Hid _ := hb6
      clear hat hb4 hb5 cg d9 ld hbr
      rcases hfp.out with ⟨p20, hv⟩ | ⟨p13, k1'⟩ | ⟨p14, k2'⟩
      · subst p20
        have e3 : g1 = g0 := by rw [HB3.out, if_neg (by decide)]; rfl
        have e4 : h1 = h0 := by rw [HB4.out, if_neg (by decide)]; rfl
        by_cases a1 : kd = 1
        · subst a1
          have e1 : b1 = b0 + 1 := by rw [HB1.out, if_pos rfl]
          have e2 : u1 = u0 := by rw [HB2.out, if_neg (by decide)]; rfl
          clear HB1 HB2 HB3 HB4 hv hfp
          subst e1 e2 e3 e4
          have hcb : Hid (∀ W, Calls Try.prog 31 #[I 1] W fun e w' => e = .returned (.bool false) ∧ w' = W) := fun W => by have := hch.out 1 W; simpa using this
          have hwb : Hid (∀ W, Calls Try.prog 32 #[I vl, I 1, I 4] W fun e w' => e = .returned (.bool (decide (1 ≤ vl ∧ vl ≤ 4))) ∧ w' = W) := fun W => hwi.out vl W
          clear hch hwi
          go_wp2_with fail
          refine Calls.mono (hcb.out _) ?_
          rintro e w4 ⟨rfl, rfl⟩
          have hb7 := HB6.out
          go_wp2_with fail
          go_roundw
          case rel => exact ⟨q + 1, by omega, by go_num, by rw [HQ1.out, HQ2.out]; go_num, by rw [HQ3.out], by rw [HQ4.out], hb7⟩
          case measure => simp [intOf]; omega
        · have bk1 : (kd == 1) = false := by rw [beq_eq_false_iff_ne]; exact a1
          have e1 : b1 = b0 := by rw [HB1.out, if_neg a1]; rfl
          have hwb : Hid (∀ W, Calls Try.prog 32 #[I vl, I 1, I 4] W fun e w' => e = .returned (.bool (decide (1 ≤ vl ∧ vl ≤ 4))) ∧ w' = W) := fun W => hwi.out vl W
          by_cases a2 : kd = 2
          · subst a2
            have hcb : Hid (∀ W, Calls Try.prog 31 #[I 2] W fun e w' => e = .returned (.bool false) ∧ w' = W) := fun W => by have := hch.out 2 W; simpa using this
            have e2 : u1 = u0 + 1 := by rw [HB2.out, if_pos rfl]
            clear HB1 HB2 HB3 HB4 hv hfp hch hwi a1
            subst e1 e2 e3 e4
            go_wp2_with fail
            refine Calls.mono (hcb.out _) ?_
            rintro e w4 ⟨rfl, rfl⟩
            have hb7 := HB6.out
            go_wp2_with fail
            go_roundw
            case rel => exact ⟨q + 1, by omega, by go_num, by rw [HQ1.out, HQ2.out]; go_num, by rw [HQ3.out], by rw [HQ4.out], hb7⟩
            case measure => simp [intOf]; omega
          · have bk2 : (kd == 2) = false := by rw [beq_eq_false_iff_ne]; exact a2
            have e2 : u1 = u0 := by rw [HB2.out, if_neg a2]; rfl
            have hcc := hch.out kd
            by_cases a3 : kd = 3 ∨ kd = 4
            · have hcb : Hid (∀ W, Calls Try.prog 31 #[I kd] W fun e w' => e = .returned (.bool true) ∧ w' = W) := fun W => by have := hcc W; rcases a3 with x | x <;> simpa [x] using this
              have hvv := hv (by omega)
              have hwt : decide (1 ≤ vl ∧ vl ≤ 4) = true := decide_eq_true hvv
              rw [hwt] at hwb
              clear HB1 HB2 HB3 HB4 hv hfp hch hwi a1 a2 a3 hcc hvv hwt
              subst e1 e2 e3 e4
              go_wp2_with fail
              refine Calls.mono (hcb.out _) ?_
              rintro e w4 ⟨rfl, rfl⟩
              have hb7 := HB6.out
              go_wp2_with fail
              refine Calls.mono (hwb.out _) ?_
              rintro e w5 ⟨rfl, rfl⟩
              go_wp2_with fail
              go_roundw
              case rel => exact ⟨q + 1, by omega, by go_num, by rw [HQ1.out, HQ2.out], by rw [HQ3.out], by rw [HQ4.out], hb7⟩
              case measure => simp [intOf]; omega
            · have hcb : Hid (∀ W, Calls Try.prog 31 #[I kd] W fun e w' => e = .returned (.bool false) ∧ w' = W) := fun W => by
                have := hcc W
                have n3 : ¬ kd = 3 := fun x => a3 (Or.inl x)
                have n4 : ¬ kd = 4 := fun x => a3 (Or.inr x)
                simpa [n3, n4] using this
              clear HB1 HB2 HB3 HB4 hv hfp hch hwi a1 a2 a3 hcc
              subst e1 e2 e3 e4
              go_wp2_with fail
              refine Calls.mono (hcb.out _) ?_
              rintro e w4 ⟨rfl, rfl⟩
              have hb7 := HB6.out
              go_wp2_with fail
              go_roundw
              case rel => exact ⟨q + 1, by omega, by go_num, by rw [HQ1.out, HQ2.out], by rw [HQ3.out], by rw [HQ4.out], hb7⟩
              case measure => simp [intOf]; omega
      · subst p13 k1'
        have e1 : b1 = b0 + 1 := by rw [HB1.out, if_pos rfl]
        have e2 : u1 = u0 := by rw [HB2.out, if_neg (by decide)]; rfl
        have e3 : g1 = g0 + 1 := by rw [HB3.out, if_pos rfl]
        have e4 : h1 = h0 := by rw [HB4.out, if_neg (by decide)]; rfl
        clear HB1 HB2 HB3 HB4 hfp
        subst e1 e2 e3 e4
        go_wp2_with fail
        go_roundw
        case rel => exact ⟨q + 1, by omega, by go_num, by rw [HQ1.out, HQ2.out]; go_num, by rw [HQ3.out]; go_num, by rw [HQ4.out], hb6⟩
        case measure => simp [intOf]; omega
      · subst p14 k2'
        have e1 : b1 = b0 := by rw [HB1.out, if_neg (by decide)]; rfl
        have e2 : u1 = u0 + 1 := by rw [HB2.out, if_pos rfl]
        have e3 : g1 = g0 := by rw [HB3.out, if_neg (by decide)]; rfl
        have e4 : h1 = h0 + 1 := by rw [HB4.out, if_pos rfl]
        clear HB1 HB2 HB3 HB4 hfp
        subst e1 e2 e3 e4
        go_wp2_with fail
        go_roundw
        case rel => exact ⟨q + 1, by omega, by go_num, by rw [HQ1.out, HQ2.out]; go_num, by rw [HQ3.out], by rw [HQ4.out]; go_num, hb6⟩
        case measure => simp [intOf]; omega
    · have eq : q = ps.length := by omega
      subst eq
      have bq : decide ((ps.length : Int) < (ps.length : Int)) = false := decide_eq_false (by omega)
      obtain ⟨f1, f2, _⟩ := HEND.out
      generalize cntTo isPut ps ps.length = b0 at *
      generalize cntTo isGet ps ps.length = u0 at *
      generalize cntTo in13 ps ps.length = g0 at *
      generalize cntTo in14 ps ps.length = h0 at *
      have d2 := (hbr.cell (p := ⟨hb, 2, none⟩) l0).trans c2
      have d4 := (hbr.cell (p := ⟨hb, 4, none⟩) l0).trans c4
      obtain ⟨d, hd⟩ := Int.eq_ofNat_of_zero_le hcf.1
      obtain ⟨s, hs⟩ := Int.eq_ofNat_of_zero_le (show 0 ≤ c.slots by omega)
      have hd4 : d ≤ 4 := by omega
      have hs4 : s ≤ 4 := by omega
      rw [hd, hs, Int.toNat_natCast] at f1
      rw [hd] at d2
      rw [hs] at d4
      have F1 : Hid _ := f1
      have F2 : Hid _ := f2
      clear HAT HFP HOP HEND hch hwi hd hs c2 c4 hcf f1 f2
      go_wp2_with fail
      go_quiet (fail)
      have hR : 0 ≤ (s : Int) * 2 ^ d ∧ (s : Int) * 2 ^ d ≤ 64 := by
        have h2 : (2 : Nat) ^ d ≤ 2 ^ 4 := Nat.pow_le_pow_right (by omega) hd4
        have h3 : s * 2 ^ d ≤ 4 * 16 := Nat.mul_le_mul hs4 h2
        have h4 : ((s * 2 ^ d : Nat) : Int) = (s : Int) * 2 ^ d := by push_cast; rfl
        omega
      have hW : wrap64 ((s : Int) * 2 ^ d) = (s : Int) * 2 ^ d := IntWalk.wrap64_in _ ⟨by omega, by omega⟩
      rw [hW]
      have hb7 := Below.drewN' hbr nq
      have f1 := F1.out
      have f2 := F2.out
      clear F1 F2 hW d2 d4 hbr d9 ld
      generalize wr.drewN nq = wq at *
      generalize (s : Int) * 2 ^ d = R at *
      obtain ⟨r1, r2⟩ := hR
      by_cases n0 : (b0 : Int) - (u0 : Int) < 0
      · have bn : decide ((b0 : Int) - (u0 : Int) < 0) = true := decide_eq_true n0
        have bR : decide (R < (b0 : Int) - (u0 : Int)) = false := decide_eq_false (by omega)
        rw [if_neg (by omega)] at f1
        rw [if_pos n0] at f2
        have g00 : g0 = 0 := by omega
        subst g00
        have be : ((h0 : Int) == -((b0 : Int) - (u0 : Int))) = true := by rw [beq_iff_eq]; exact f2
        clear f1 f2
        go_wp2_with fail
        go_ret
        exact ⟨rfl, hb7⟩
      · have bn : decide ((b0 : Int) - (u0 : Int) < 0) = false := decide_eq_false n0
        rw [if_neg n0] at f2
        have h00 : h0 = 0 := by omega
        subst h00
        by_cases nR : R < (b0 : Int) - (u0 : Int)
        · have bR : decide (R < (b0 : Int) - (u0 : Int)) = true := decide_eq_true nR
          rw [if_pos nR] at f1
          have be : ((g0 : Int) == (b0 : Int) - (u0 : Int) - R) = true := by rw [beq_iff_eq]; exact f1
          clear f1 f2
          go_wp2_with fail
          go_ret
          exact ⟨rfl, hb7⟩
        · have bR : decide (R < (b0 : Int) - (u0 : Int)) = false := decide_eq_false nR
          rw [if_neg nR] at f1
          have g00 : g0 = 0 := by omega
          subst g00
          clear f1 f2
          go_wp2_with fail
          go_ret
          exact ⟨rfl, hb7⟩

end Go.Proofs.Ytjnmpejcegmkhab

namespace Go.Proofs.Ytjnmpejcegmkhab
open Go.RowKit

end Go.Proofs.Ytjnmpejcegmkhab

namespace Go.Proofs.Ytjnmpejcegmkhab
open Go.RowKit

end Go.Proofs.Ytjnmpejcegmkhab

namespace Go.Proofs.Ytjnmpejcegmkhab
open Go.RowKit

theorem lies_len (l : List ND) (h : ∀ d ∈ l, d.items.length ≤ 10000) : (liesL l).length ≤ l.length * 10000 := by
  induction l with
  | nil => simp [liesL]
  | cons d r ih =>
    have h0 := h d (by simp)
    have := ih fun y hy => h y (by simp [hy])
    unfold liesL at this ⊢
    simp only [List.flatMap_cons, List.length_append, List.length_cons]
    omega
theorem rnodes_items {c : Conf} {L : Lay} {P : PLay} (h : CRel c L P) : ∀ d ∈ rnodes L, d.items.length ≤ 10000 := by
  intro d hd
  obtain ⟨v, hv, hi, rfl⟩ := (rnodes_mem L _ d).1 hd
  have hv0 : v ≠ 0 := hi.1
  have hf3 : formH (L.hist v) ≠ 3 := hi.2
  have hN := h.rel.lenle
  have hn := h.rel.nodes v (by omega) hv
  have hf := hn.form
  have hf2 : formH (L.hist v) = 1 ∨ formH (L.hist v) = 2 := by omega
  rcases hf2 with f | f
  · simp [rnode, f]
  · have hit := ((hn.leaf f).2.2.2).vals h.rel.confs.1
    have hz := h.rel.isz v (by omega) (by omega)
    have hp := pvals_le (P.nodes.getD v zeroPN).items
    simp only [rnode, f]
    rw [if_neg (by decide)]
    simp only [hit]
    omega
theorem lies_snoc (l : List ND) (k : Nat) (hk : k < l.length) : liesL (l.take (k + 1)) = liesL (l.take k) ++ (l[k]).items := by
  unfold liesL
  rw [List.take_add_one, List.getElem?_eq_getElem hk, List.flatMap_append]
  simp

end Go.Proofs.Ytjnmpejcegmkhab

namespace Go.Proofs.Ytjnmpejcegmkhab
open Go.RowKit

theorem PRep.base2 {w : World} {B B' : Nat} {L : PLay} (h : PRep w B L) (hb : B' ≤ B) : PRep w B' L :=
  ⟨h.tree, Nat.le_trans hb h.treeB, h.len, ownsRow_mono h.prow hb, fun v hv => ownsRow_mono (h.items v hv) hb, h.ind⟩

set_option maxHeartbeats 4000000 in
theorem kbegin_no (c : Conf) (w : World) (h : mayC c = false) : Calls Try.prog 7 #[confV c] w fun e w' => e = .returned (.tuple #[.pointer none, .bool true]) ∧ Below w.heap.size w w' := by
  have h1 := fun W => pnew_no c W h
  have h2 := fun W => good_c c W
  rw [h] at h2
  unfold confV at h1 h2 ⊢
  clear h
  replace h1 : Hid _ := h1
  replace h2 : Hid _ := h2
  go_enter Try.func7, Try.ntmps7
  go_wp2_with fail
  refine Calls.mono (h1.out _) ?_
  rintro e w1 ⟨rfl, hb1⟩
  have nb1 : w1.heap[w.heap.size]? = some (.cells #[I c.kind, I c.depth, I c.start, I c.slots, I c.width, I c.spin, I c.drain, I c.procs] 23 (0, 0)) := (hb1.block _ (by simp)).trans (nb_alloc _ _ _)
  have hb2 : Below w.heap.size w w1 := ((Below.refl _ _).alloc (Nat.le_refl _) _).trans (hb1.mono (by simp))
  obtain ⟨f1, _⟩ := nb_facts nb1
  clear hb1 h1
  go_wp2_with fail
  refine Calls.mono (h2.out _) ?_
  rintro e w2 ⟨rfl, hb3⟩
  go_wp2
  go_ret2
  exact ⟨rfl, hb2.trans (hb3.mono hb2.size)⟩

set_option maxHeartbeats 4000000 in
theorem kbegin_yes (c : Conf) (w : World) (h : mayC c = true) : Calls Try.prog 7 #[confV c] w fun e w' => ∃ hb P, e = .returned (.tuple #[.pointer (some ⟨hb, 0, none⟩), .bool true]) ∧ KRep w' w.heap.size hb P [] [] ∧ PNew c P ∧ Below w.heap.size w w' := by
  have h1 := fun W => pnew_yes c W h
  have h2 := fun W => good_c c W
  rw [h] at h2
  unfold confV at h1 h2 ⊢
  clear h
  replace h1 : Hid _ := h1
  replace h2 : Hid _ := h2
  go_enter Try.func7, Try.ntmps7
  go_wp2_with fail
  refine Calls.mono (h1.out _) ?_
  rintro e w1 ⟨P, rfl, hpr, hpn, hb1⟩
  have nb1 : w1.heap[w.heap.size]? = some (.cells #[I c.kind, I c.depth, I c.start, I c.slots, I c.width, I c.spin, I c.drain, I c.procs] 23 (0, 0)) := (hb1.block _ (by simp)).trans (nb_alloc _ _ _)
  have hb2 : Below w.heap.size w w1 := ((Below.refl _ _).alloc (Nat.le_refl _) _).trans (hb1.mono (by simp))
  obtain ⟨f1, _⟩ := nb_facts nb1
  have HPR : Hid _ := hpr
  clear hb1 h1 hpr
  go_wp2_with fail
  refine Calls.mono (h2.out _) ?_
  rintro e w2 ⟨rfl, hb3⟩
  have nb2 := (hb3.block _ (Array.getElem?_eq_some_iff.1 nb1).1).trans nb1
  obtain ⟨g1, _⟩ := nb_facts nb2
  have hb4 := hb2.trans (hb3.mono hb2.size)
  have HP2 : Hid _ := HPR.out.below hb3
  clear f1 hb3 hb2 HPR
  go_wp2_with fail
  go_ret2
  have hcf := hpn.conf
  refine ⟨w2.heap.size, P, rfl, ⟨⟨.slice none 0 0, .slice none 0 0, ?_, World.ownsRow_nil _ _ _ _, World.ownsRow_nil _ _ _ _⟩, hb4.size, ?_, by rw [hpn.procs]; rfl, rfl⟩, hpn, hb4.alloc hb4.size _⟩
  · unfold handCells
    rw [hcf]
    exact nb_alloc _ _ _
  · exact (HP2.out.below ((Below.refl _ _).alloc (Nat.le_refl _) _)).base2 (by simp)

end Go.Proofs.Ytjnmpejcegmkhab

namespace Go.Proofs.Ytjnmpejcegmkhab
open Go.ChangeShapes Go.WideShapes Go.ChangeAt Go.RowKit Go.Joins

theorem ownK2 : ownKnob Try.prog.godebug = none := by kernel_rfl

theorem laidOut2 : laidOutB Try.prog = true := by kernel_rfl

set_option maxRecDepth 100000 in
theorem conf_open2 {H : Type} {enc : TypeId × Value → H} {W : World} {base : Nat} {held : Bool} {sp : Nat → Bool} {v : Value} {d : DataW H} {p : List MemPlace} {r : Reach} {b0 : Nat}
    (hv : Value.okWide Try.prog W r b0 23 v) (h : DataW.Trod enc Try.prog W base sp held 23 v d p) : ∃ c : Conf, v = confV c := by
  obtain ⟨cs, rfl, hsz⟩ := okWide_struct Try.underlying23 hv
  obtain ⟨fuel, hf⟩ := h
  obtain ⟨xs, n, h1, h2, hl, hlen, hf⟩ := DataW.trod_struct Try.underlying23 hf
  have hlen8 : xs.length = 8 := hlen
  have hcs8 : cs.toList.length = 8 := by
    have e8 : Try.prog.cellsOf 23 = 8 := by kernel_rfl
    rw [Array.length_toList, hsz, e8]
  have e1 : Try.prog.cellsOf 3 = 1 := by kernel_rfl
  have key : ∀ i, i < 8 → ∀ f : Field, f.type = 3 → f.offset = i → DataW.trod enc Try.prog W base sp held n f.type ((cs.toList.drop f.offset).take (Try.prog.cellsOf f.type)) = xs[i]? → ∃ a : Int, cs.toList[i]? = some (I a) := by
    intro i hi f ht ho hx
    rw [ht, ho, e1] at hx
    rw [List.getElem?_eq_getElem (by omega : i < xs.length)] at hx
    obtain ⟨a, hc, _⟩ := DataW.trod_int Try.underlying3 hx
    refine ⟨a, ?_⟩
    have := congrArg (fun l => l[0]?) hc
    simpa using this
  obtain ⟨a0, q0⟩ := key 0 (by omega) _ rfl rfl (hf 0 _ rfl)
  obtain ⟨a1, q1⟩ := key 1 (by omega) _ rfl rfl (hf 1 _ rfl)
  obtain ⟨a2, q2⟩ := key 2 (by omega) _ rfl rfl (hf 2 _ rfl)
  obtain ⟨a3, q3⟩ := key 3 (by omega) _ rfl rfl (hf 3 _ rfl)
  obtain ⟨a4, q4⟩ := key 4 (by omega) _ rfl rfl (hf 4 _ rfl)
  obtain ⟨a5, q5⟩ := key 5 (by omega) _ rfl rfl (hf 5 _ rfl)
  obtain ⟨a6, q6⟩ := key 6 (by omega) _ rfl rfl (hf 6 _ rfl)
  obtain ⟨a7, q7⟩ := key 7 (by omega) _ rfl rfl (hf 7 _ rfl)
  refine ⟨⟨a0, a1, a2, a3, a4, a5, a6, a7⟩, ?_⟩
  have el : cs.toList = [I a0, I a1, I a2, I a3, I a4, I a5, I a6, I a7] := by
    apply List.ext_getElem?
    intro i
    by_cases hi : i < 8
    · have : i = 0 ∨ i = 1 ∨ i = 2 ∨ i = 3 ∨ i = 4 ∨ i = 5 ∨ i = 6 ∨ i = 7 := by omega
      rcases this with rfl | rfl | rfl | rfl | rfl | rfl | rfl | rfl
      · exact q0
      · exact q1
      · exact q2
      · exact q3
      · exact q4
      · exact q5
      · exact q6
      · exact q7
    · rw [List.getElem?_eq_none (by omega), List.getElem?_eq_none (by simp; omega)]
  show Value.agg cs = .agg #[I a0, I a1, I a2, I a3, I a4, I a5, I a6, I a7]
  have ec : cs = #[I a0, I a1, I a2, I a3, I a4, I a5, I a6, I a7] := Array.toList_inj.1 el
  rw [ec]

structure ScrAt (w : World) (v : Value) (n : Nat) (l : Nat → Int × Int × Int) : Prop where
  form : ∃ ao cap, v = .slice ao n cap ∧ n ≤ cap ∧ n ≤ maxLen ∧ ∀ i, i < n → ∃ b off, ao = some ⟨b, off, none⟩ ∧ b < w.heap.size ∧
    w.cell? ⟨b, off + i * 3, none⟩ = some (I (l i).1) ∧ w.cell? ⟨b, off + i * 3 + 1, none⟩ = some (I (l i).2.1) ∧ w.cell? ⟨b, off + i * 3 + 2, none⟩ = some (I (l i).2.2)

/-- A list of raw numbers. -/
structure PicksIn (w : World) (v : Value) (n : Nat) (f : Nat → Int) : Prop where
  form : ∃ ao cap, v = .slice ao n cap ∧ n ≤ cap ∧ n ≤ maxLen ∧ ∀ i, i < n → -9223372036854775808 ≤ f i ∧ ∃ b off, ao = some ⟨b, off, none⟩ ∧ b < w.heap.size ∧ w.cell? ⟨b, off + i, none⟩ = some (I (f i))
set_option maxRecDepth 100000 in
theorem kop_open2 {H : Type} {enc : TypeId × Value → H} {W : World} {base n : Nat} {held : Bool} {sp : Nat → Bool} {cs : List Value} {x : DataW H × List MemPlace}
    (h : DataW.trod enc Try.prog W base sp held n 31 cs = some x) (hl : cs.length = 3) : ∃ q : Int × Int × Int, cs = [I q.1, I q.2.1, I q.2.2] := by
  obtain ⟨xs, m, h1, h2, _, hlen, hf⟩ := DataW.trod_struct Try.underlying31 h
  have hlen3 : xs.length = 3 := hlen
  have e1 : Try.prog.cellsOf 3 = 1 := by kernel_rfl
  have key : ∀ i, i < 3 → ∀ f : Field, f.type = 3 → f.offset = i → DataW.trod enc Try.prog W base sp held m f.type ((cs.drop f.offset).take (Try.prog.cellsOf f.type)) = xs[i]? → ∃ a : Int, cs[i]? = some (I a) := by
    intro i hi f ht ho hx
    rw [ht, ho, e1] at hx
    rw [List.getElem?_eq_getElem (by omega : i < xs.length)] at hx
    obtain ⟨a, hc, _⟩ := DataW.trod_int Try.underlying3 hx
    refine ⟨a, ?_⟩
    have := congrArg (fun l => l[0]?) hc
    simpa using this
  obtain ⟨a0, q0⟩ := key 0 (by omega) _ rfl rfl (hf 0 _ rfl)
  obtain ⟨a1, q1⟩ := key 1 (by omega) _ rfl rfl (hf 1 _ rfl)
  obtain ⟨a2, q2⟩ := key 2 (by omega) _ rfl rfl (hf 2 _ rfl)
  refine ⟨(a0, a1, a2), ?_⟩
  apply List.ext_getElem?
  intro i
  by_cases hi : i < 3
  · have : i = 0 ∨ i = 1 ∨ i = 2 := by omega
    rcases this with rfl | rfl | rfl
    · exact q0
    · exact q1
    · exact q2
  · rw [List.getElem?_eq_none (by omega), List.getElem?_eq_none (by simp; omega)]

theorem kscript_open2 {H : Type} {enc : TypeId × Value → H} {W : World} {base : Nat} {held : Bool} {ao : Option Addr} {len cap : Nat} {d : DataW H} {p : List MemPlace}
    (h : DataW.Trod enc Try.prog W base (fun _ => true) held 24 (.slice ao len cap) d p) : ∃ l, ScrAt W (.slice ao len cap) len l := by
  obtain ⟨fuel, hf⟩ := h
  rcases Go.Deep.open_slice Try.underlying24 hf with ⟨hcs, _⟩ | ⟨a, len', cap', m, n, D, Pl, hcs, _, hl, hm, hmm, _, hx⟩
  · simp [Value.cells] at hcs
    obtain ⟨rfl, rfl, rfl⟩ := hcs
    exact ⟨fun _ => (0, 0, 0), ⟨none, 0, rfl, Nat.le_refl _, Nat.zero_le _, fun i hi => absurd hi (by omega)⟩⟩
  · simp [Value.cells] at hcs
    obtain ⟨rfl, rfl, rfl⟩ := hcs
    have e3 : Try.prog.cellsOf 31 = 3 := by kernel_rfl
    simp only [if_true] at hmm
    subst hmm
    rw [e3] at hx
    have key : ∀ i, i < len → ∃ q : Int × Int × Int, ∃ b off, (some a : Option Addr) = some ⟨b, off, none⟩ ∧ b < W.heap.size ∧
        W.cell? ⟨b, off + i * 3, none⟩ = some (I q.1) ∧ W.cell? ⟨b, off + i * 3 + 1, none⟩ = some (I q.2.1) ∧ W.cell? ⟨b, off + i * 3 + 2, none⟩ = some (I q.2.2) := by
      intro i hi
      obtain ⟨cs', h1, h2⟩ := hx i (by omega)
      obtain ⟨_, hlen, hc⟩ := World.cells?_some h1
      obtain ⟨q, rfl⟩ := kop_open2 h2 hlen
      have c0 := hc 0 (by omega)
      have c1 := hc 1 (by omega)
      have c2 := hc 2 (by omega)
      obtain ⟨b, off, sp⟩ := a
      have hsp : sp = none := by
        cases sp with
        | none => rfl
        | some s =>
          exfalso
          obtain ⟨cs0, g1, g2⟩ := hx 0 (by omega)
          obtain ⟨_, glen, gc⟩ := World.cells?_some g1
          have g0 := gc 0 (by omega)
          rw [List.getElem?_eq_getElem (by omega)] at g0
          have ea : ((⟨b, off, some s⟩ : Addr).add (0 * 3)).add 0 = ⟨b, off, some s⟩ := by simp [Addr.add]
          rw [ea] at g0
          unfold World.cell? at g0
          split at g0 <;> simp at g0
      subst hsp
      have ad : ∀ j, ((⟨b, off, none⟩ : Addr).add (i * 3)).add j = ⟨b, off + i * 3 + j, none⟩ := by
        intro j
        unfold Addr.add
        split <;> split <;> simp_all
      rw [ad] at c0 c1 c2
      refine ⟨q, b, off, rfl, cell_lt c1, ?_, ?_, ?_⟩
      · simpa using c0
      · simpa using c1
      · simpa using c2
    obtain ⟨l, hl2⟩ := Go.Deep.choose_lt key
    exact ⟨l, ⟨some a, _, rfl, hl, Nat.le_trans hl hm, hl2⟩⟩

theorem kpicks_open {H : Type} {enc : TypeId × Value → H} {W : World} {base : Nat} {held : Bool} {ao : Option Addr} {len cap : Nat} {d : DataW H} {p : List MemPlace}
    (h : DataW.Trod enc Try.prog W base (fun _ => true) held 25 (.slice ao len cap) d p) : ∃ l, PicksIn W (.slice ao len cap) len l := by
  obtain ⟨fuel, hf⟩ := h
  rcases Go.Deep.open_slice Try.underlying25 hf with ⟨hcs, _⟩ | ⟨a, len', cap', m, n, D, Pl, hcs, _, hl, hm, hmm, _, hx⟩
  · simp [Value.cells] at hcs
    obtain ⟨rfl, rfl, rfl⟩ := hcs
    exact ⟨fun _ => 0, ⟨none, 0, rfl, Nat.le_refl _, Nat.zero_le _, fun i hi => absurd hi (by omega)⟩⟩
  · simp [Value.cells] at hcs
    obtain ⟨rfl, rfl, rfl⟩ := hcs
    have e1 : Try.prog.cellsOf 3 = 1 := by kernel_rfl
    simp only [if_true] at hmm
    subst hmm
    rw [e1] at hx
    have key : ∀ i, i < len → ∃ q : Int, -9223372036854775808 ≤ q ∧ ∃ b off, (some a : Option Addr) = some ⟨b, off, none⟩ ∧ b < W.heap.size ∧ W.cell? ⟨b, off + i, none⟩ = some (I q) := by
      intro i hi
      obtain ⟨cs', h1, h2⟩ := hx i (by omega)
      obtain ⟨_, hlen, hc⟩ := World.cells?_some h1
      obtain ⟨q, rfl, _, hwf⟩ := DataW.trod_int Try.underlying3 h2
      have c0 := hc 0 (by omega)
      obtain ⟨b, off, sp⟩ := a
      have hsp : sp = none := by
        cases sp with
        | none => rfl
        | some s =>
          exfalso
          obtain ⟨cs0, g1, g2⟩ := hx 0 (by omega)
          obtain ⟨_, glen, gc⟩ := World.cells?_some g1
          have g0 := gc 0 (by omega)
          rw [List.getElem?_eq_getElem (by omega)] at g0
          have ea : ((⟨b, off, some s⟩ : Addr).add (0 * 1)).add 0 = ⟨b, off, some s⟩ := by simp [Addr.add]
          rw [ea] at g0
          unfold World.cell? at g0
          split at g0 <;> simp at g0
      subst hsp
      have ad : ∀ j, ((⟨b, off, none⟩ : Addr).add (i * 1)).add j = ⟨b, off + i * 1 + j, none⟩ := by
        intro j
        unfold Addr.add
        split <;> split <;> simp_all
      rw [ad] at c0
      have c0' : W.cell? ⟨b, off + i, none⟩ = some (I q) := by simpa using c0
      exact ⟨q, (bounds_i64 hwf).1, b, off, rfl, cell_lt c0', c0'⟩
    obtain ⟨l, hl2⟩ := Go.Deep.choose_lt key
    exact ⟨l, ⟨some a, _, rfl, hl, Nat.le_trans hl hm, hl2⟩⟩

end Go.Proofs.Ytjnmpejcegmkhab

namespace Go.Proofs.Ytjnmpejcegmkhab
open Go.RowKit

theorem PicksIn.atC {w W : World} {B : Nat} {v : Value} {n : Nat} {f : Nat → Int} (h : PicksIn w v n f) (hb : Below w.heap.size w W) (hB : w.heap.size ≤ B) : PicksAt W B v n f := by
  obtain ⟨ao, cap, h1, h2, h3, h4⟩ := h.form
  refine ⟨⟨ao, cap, h1, h2, h3, fun i hi => ?_⟩⟩
  obtain ⟨a, b, off, e, lb, cb⟩ := h4 i hi
  exact ⟨a, b, off, e, by omega, Nat.lt_of_lt_of_le lb hb.size, (hb.cell (p := ⟨b, off + i, none⟩) lb).trans cb⟩

theorem live_zero : ∀ ps : Prs, liveL ps = 0 → ∀ i, (hi : i < ps.length) → (ps[i]).2.phase = 20
  | [], _, i, hi => absurd hi (Nat.not_lt_zero _)
  | y :: r, h, i, hi => by
    simp only [liveL] at h
    have h1 : (if y.2.phase = 20 then 0 else 1) = 0 := by omega
    have h2 : liveL r = 0 := by omega
    match i, hi with
    | 0, _ =>
      by_cases e : y.2.phase = 20
      · exact e
      · rw [if_neg e] at h1; omega
    | i + 1, hi =>
      have := live_zero r h2 i (by simpa using hi)
      simpa using this
theorem shut_free (v : Int) : ∀ ps : Prs, (∀ i, (hi : i < ps.length) → ¬ (16 ≤ (ps[i]).2.phase ∧ (ps[i]).2.phase ≤ 18)) → shutL v ps = false
  | [], _ => rfl
  | y :: r, h => by
    have h0 := h 0 (by simp)
    simp only [List.getElem_cons_zero] at h0
    have ih := shut_free v r fun i hi => by
      have := h (i + 1) (by simpa using hi)
      simpa using this
    have e : shutP v y.2 = false := by
      unfold shutP
      have a : ¬ y.2.phase = 16 := by omega
      have b : ¬ y.2.phase = 17 := by omega
      have d : ¬ y.2.phase = 18 := by omega
      simp [a, b, d]
    simp [shutL, e, ih]

theorem fin_nodes {c : Conf} {L : Lay} {P : PLay} (h : CRel c L P) (z : AOk c L) (f : FR c L) : ∀ d ∈ rnodes L, d.shut = false ∧ (liveL L.procs = 0 → d.inside = 0) := by
  intro d hd
  obtain ⟨v, _, _, rfl⟩ := (rnodes_mem L _ d).1 hd
  have e1 : (rnode L v).shut = shutL v L.procs := by unfold rnode; split <;> rfl
  have e2 : (rnode L v).inside = (insideL v L.procs : Int) := by unfold rnode; split <;> rfl
  rw [e1, e2]
  refine ⟨shut_free _ _ fun i hi => ?_, fun hz => ?_⟩
  · rcases fin_pr h z f i hi with x | x | x <;> omega
  · have := insideL_none v L.procs fun j hj => by
      have := live_zero L.procs hz j hj
      unfold holdsP
      simp [this]
    omega

theorem in14_pos (ps : Prs) (i : Nat) (hi : i < ps.length) (h14 : (ps[i]).2.phase = 14) : ∀ k, i < k → k ≤ ps.length → 0 < cntTo in14 ps k
  | 0, h, _ => by omega
  | k + 1, h, hk => by
    simp only [cntTo]
    by_cases e : i = k
    · subst e
      rw [dif_pos hi, if_pos (by unfold in14; simp [h14])]
      omega
    · have := in14_pos ps i hi h14 k (by omega) (by omega)
      omega

set_option maxHeartbeats 8000000 in
set_option maxRecDepth 100000 in
theorem calm_walk (c : Conf) (w : World) (v : Value) (n : Nat) (l : Nat → Int × Int × Int) (hs : ScrAt w v n l) (pv : Value) (m : Nat) (pf : Nat → Int) (hpk : PicksIn w pv m pf) : Calls Try.prog 4 #[confV c, v, pv] w fun e w' => e = .returned (.bool true) ∧ Below w.heap.size w w' := by
  obtain ⟨ao, cap, rfl, n1, n2, h4⟩ := hs.form
  unfold maxLen at n2
  have HPK : Hid _ := hpk
  obtain ⟨ap, cp, epv, _⟩ := hpk.form
  subst epv
  clear hpk
  have hba : Below w.heap.size w (w.alloc (.cells #[I c.kind, I c.depth, I c.start, I c.slots, I c.width, I c.spin, I c.drain, I c.procs] 23)) := (Below.refl _ _).alloc (Nat.le_refl _) _
  cases hm : mayC c
  · have hbg := fun W => kbegin_no c W hm
    unfold confV at hbg ⊢
    replace hbg : Hid _ := hbg
    clear hs h4 hm
    go_enter Try.func4, Try.ntmps4
    go_wp2_with fail
    refine Calls.mono (hbg.out _) ?_
    rintro e w1 ⟨rfl, hb1⟩
    go_wp2_with fail
    go_ret
    exact ⟨rfl, hba.trans (hb1.mono hba.size)⟩
  · have hbg := fun W => kbegin_yes c W hm
    unfold confV at hbg ⊢
    replace hbg : Hid _ := hbg
    have HM : Hid _ := hm
    have H4 : Hid _ := h4
    clear hs h4 hm
    go_enter Try.func4, Try.ntmps4
    go_wp2_with fail
    refine Calls.mono (hbg.out _) ?_
    rintro e w1 ⟨hb, P, rfl, hk, hpn, hb1⟩
    have hst := KSt.new HM.out hk hpn hb1.size
    have hbw : Below w.heap.size w w1 := hba.trans (hb1.mono hba.size)
    have hx0 := AOk.new c
    have HB : Hid (w.heap.size ≤ (w.alloc (.cells #[I c.kind, I c.depth, I c.start, I c.slots, I c.width, I c.spin, I c.drain, I c.procs] 23)).heap.size) := hba.size
    generalize (w.alloc (.cells #[I c.kind, I c.depth, I c.start, I c.slots, I c.width, I c.spin, I c.drain, I c.procs] 23)).heap.size = B at *
    have HSX : Hid (∃ S P, KSt w1 B hb c S P ∧ AOk c S.L) := ⟨_, _, hst, hx0⟩
    clear hbg hb1 hba hk hpn hst hx0
    go_wp2_with fail
    go_loopw [8, 9] (fun _ ii wr => ∃ k : Nat, k ≤ n ∧ ii = .int .i64 k ∧ Hid (∃ S P, KSt wr B hb c S P ∧ AOk c S.L) ∧ Below w.heap.size w wr) (fun _ ii _ => n - (intOf ii).toNat)
    case atStart => exact ⟨0, Nat.zero_le _, rfl, HSX.out, hbw⟩
    case round =>
      obtain ⟨k, hk, rfl, hst', hbr⟩ := hrel
      obtain ⟨S, P', hst2, hx2⟩ := hst'.out
      by_cases hlt : k < n
      · obtain ⟨b, off, rfl, lb, p0, p1, p2⟩ := H4.out k hlt
        have d0 := (hbr.cell (p := ⟨b, off + k * 3, none⟩) lb).trans p0
        have d1 := (hbr.cell (p := ⟨b, off + k * 3 + 1, none⟩) lb).trans p1
        have d2 := (hbr.cell (p := ⟨b, off + k * 3 + 2, none⟩) lb).trans p2
        have ld := cell_lt d0
        generalize (l k).1 = o1 at *
        generalize (l k).2.1 = o2 at *
        generalize (l k).2.2 = o3 at *
        have hpl := hplay_c hst2 o1 o2 o3
        have HX3 : Hid (AOk c (gplay c S o1 o2 o3).L) := AOk.play hst2 hx2 o1 o2 o3
        have HBB : Hid (B ≤ _) := hst2.hB
        replace hpl : Hid _ := hpl
        have bk : decide ((k : Int) < (n : Int)) = true := decide_eq_true (by omega)
        clear p0 p1 p2 H4 hst2 hst' HSX hx2 HPK
        generalize gplay c S o1 o2 o3 = S3 at *
        go_wp2_with fail
        refine Calls.mono hpl.out ?_
        rintro e w3 ⟨rfl, ⟨P3, hst3⟩, hc3⟩
        have hb3 : Below w.heap.size w w3 := hbr.trans ((hc3.below HBB.out).mono HB.out)
        have HS3 : Hid (∃ S P, KSt w3 B hb c S P ∧ AOk c S.L) := ⟨_, _, hst3, HX3.out⟩
        clear hpl hc3 hst3
        go_wp2_with fail
        go_roundw
        case rel => exact ⟨k + 1, by omega, by go_num, HS3.out, hb3⟩
        case measure => simp [intOf]; omega
      · have bk : decide ((k : Int) < (n : Int)) = false := decide_eq_false (by omega)
        have hse := kqsettle_c hst2 hx2 _ m pf (PicksIn.atC HPK.out hbr HB.out)
        replace hse : Hid _ := hse
        clear H4 HSX hst' hst2 hx2
        go_wp2_with fail
        refine Calls.mono hse.out ?_
        rintro e w3 ⟨rfl, ⟨S3, P3, hst3, hx3, _, hfr⟩, hb3⟩
        have hb4 : Below w.heap.size w w3 := hbr.trans (hb3.mono HB.out)
        have hex := kexcess_c hst3 hx3 hfr
        replace hex : Hid _ := hex
        have HS3 : Hid (KSt w3 B hb c S3 P3) := hst3
        have HX3 : Hid (AOk c S3.L) := hx3
        have HFR : Hid (FR c S3.L) := hfr
        clear hse hst3 hx3 hfr hb3
        go_wp2_with fail
        refine Calls.mono hex.out ?_
        rintro e w4 ⟨rfl, hb5⟩
        have hst4 := HS3.out.below hb5
        have hb6 : Below w.heap.size w w4 := hb4.trans (hb5.mono hb4.size)
        clear hex hb5 hb4
        have c0 := hst4.rep.t
        have lc0 := cell_lt c0
        have hnd := hst4.nodes (Below.refl _ _)
        replace hnd : Hid _ := hnd
        have HS4 : Hid (KSt w4 B hb c S3 P3) := hst4
        clear hst4
        go_wp2_with fail
        refine Calls.mono hnd.out ?_
        rintro e w5 ⟨xn, l, rfl, hr, el, hb7⟩
        have hst5 := HS4.out.below hb7
        have hb8 : Below w.heap.size w w5 := hb6.trans (hb7.mono hb6.size)
        have hsc := hst5.shaped hr el
        replace hsc : Hid _ := hsc
        have hlr := hst5.rel.shaped.len
        obtain ⟨aa, ca, ex, a1, a2, a3, _⟩ := ownsRow_cells hr.row
        subst ex
        have hll : l.length ≤ 64 := by have := congrArg List.length el; simp at this; omega
        have HR5 : Hid (NodesRep w5 w4.heap.size (.slice aa l.length ca) l) := hr
        have HEL : Hid (l.map (fun y => y.1) = rnodes S3.L) := el
        have HS5 : Hid (KSt w5 B hb c S3 P3) := hst5
        unfold maxLen at a2 a3
        clear hnd hr el hlr hst5 hb7 hb6 c0 lc0
        go_wp2_with fail
        refine Calls.mono hsc.out ?_
        rintro e w6 ⟨rfl, hb9⟩
        have hst6 := HS5.out.below hb9
        have hb10 : Below w.heap.size w w6 := hb8.trans (hb9.mono hb8.size)
        have HR6 : Hid (NodesRep w6 w4.heap.size (.slice aa l.length ca) l) := HR5.out.below hb9 (Nat.le_refl _)
        have hlv := klive_c hst6.rep
        have elv : pliveL P3.procs = liveL S3.L.procs := plive_w hst6.rel.rel
        rw [elv] at hlv
        have hlvb : liveL S3.L.procs ≤ 256 := by
          have h1 := pliveL_le P3.procs
          have h2 := hst6.rel.plen
          have h3 := hst6.rel.rel.np
          omega
        replace hlv : Hid _ := hlv
        have HS6 : Hid (KSt w6 B hb c S3 P3) := hst6
        clear hsc hst6 hb9 hb8 HR5 HS5 HS4 HS3 elv
        go_wp2_with fail
        refine Calls.mono hlv.out ?_
        rintro e w7 ⟨rfl, hb11⟩
        have hst7 := HS6.out.below hb11
        have hb12 : Below w.heap.size w w7 := hb10.trans (hb11.mono hb10.size)
        have HR7 : Hid (NodesRep w7 w4.heap.size (.slice aa l.length ca) l) := HR6.out.below hb11 (Nat.le_refl _)
        have HFN : Hid (∀ d ∈ rnodes S3.L, d.shut = false ∧ (liveL S3.L.procs = 0 → d.inside = 0)) := fin_nodes hst7.rel HX3.out HFR.out
        have HEND : Hid (0 < cntTo in14 S3.L.procs S3.L.procs.length → (liesL (rnodes S3.L)).length = 0) := (fin_end hst7.rel HX3.out HFR.out).2.2
        have HLE : Hid (∀ k, (liesL ((rnodes S3.L).take k)).length ≤ 640000) := by
          intro k
          have h1 := lies_len ((rnodes S3.L).take k) fun d hd => rnodes_items hst7.rel d (List.mem_of_mem_take hd)
          have h2 : ((rnodes S3.L).take k).length ≤ 64 := by
            have := congrArg List.length HEL.out
            simp at this
            rw [List.length_take]; omega
          omega
        have HSN : Hid (∀ k, (hk : k < l.length) → liesL ((rnodes S3.L).take (k + 1)) = liesL ((rnodes S3.L).take k) ++ (l[k]).1.items) := by
          intro k hk
          have el := HEL.out
          have hl : l.length = (rnodes S3.L).length := by rw [← el]; simp
          have hk' : k < (rnodes S3.L).length := by omega
          rw [lies_snoc _ k hk']
          congr 2
          have := congrArg (fun z => z[k]?) el
          simp [hk] at this
          rw [List.getElem?_eq_getElem hk'] at this
          exact (Option.some.inj this).symm
        have HMEM : Hid (∀ k, (hk : k < l.length) → (l[k]).1 ∈ rnodes S3.L) := by
          intro k hk
          rw [← HEL.out]
          exact List.mem_map.2 ⟨l[k], List.getElem_mem _, rfl⟩
        have HALL : Hid (liesL ((rnodes S3.L).take l.length) = liesL (rnodes S3.L)) := by
          show _ = _
          have hl : l.length = (rnodes S3.L).length := by rw [← HEL.out]; simp
          rw [hl, List.take_length]
        have HAT : Hid (∀ W, Below w7.heap.size w7 W → ∀ p, (hp : p < S3.L.procs.length) → Calls Try.prog 16 #[.pointer (some ⟨hb, 0, none⟩), I p] W fun e w' => e = .returned (.agg #[I (S3.L.procs[p]).2.phase, I (S3.L.procs[p]).2.node, I (S3.L.procs[p]).2.val]) ∧ Below W.heap.size W w') := fun W hw p hp => hst7.at hw p hp
        obtain ⟨ao9, cap9, c9, q1, q2, q3⟩ := hst7.opsAt
        have l9 := cell_lt c9
        have H14 : Hid (∀ p, (hp : p < S3.L.procs.length) → (S3.L.procs[p]).2.phase = 14 → 0 < cntTo in14 S3.L.procs S3.L.procs.length) := fun p hp e => in14_pos S3.L.procs p hp e _ hp (Nat.le_refl _)
        unfold maxLen at q3
        clear hlv hst7 hb11 hb10 HR6 HS6 HEL HX3 HFR HPK
        generalize cntTo in14 S3.L.procs S3.L.procs.length = n14 at *
        generalize rnodes S3.L = rn at *
        generalize liveL S3.L.procs = lv at *
        generalize S3.L.procs = ps at *
        go_wp2_with fail
        go_loopw [13, 14] (fun mm ii wx => ∃ k : Nat, k ≤ l.length ∧ ii = .int .i64 k ∧ mm = .int .i64 ((liesL (rn.take k)).length : Nat) ∧ w7 = wx) (fun _ ii _ => l.length - (intOf ii).toNat)
        case atStart => exact ⟨0, Nat.zero_le _, rfl, rfl, rfl⟩
        case round =>
          obtain ⟨k, hk, rfl, rfl, rfl⟩ := hrel
          have hle := HLE.out k
          by_cases hkl : k < l.length
          · obtain ⟨g, e1, l1, f⟩ := nodes_at HR7.out k hkl
            have e3 := e1 _ _ _ rfl
            subst e3
            clear e1
            have f4 : w7.cell? ⟨g, k * 12 + 4, none⟩ = some (.bool (l[k]).1.shut) := by rw [f 4 (by omega)]; rfl
            have f5 : w7.cell? ⟨g, k * 12 + 5, none⟩ = some (I (l[k]).1.inside) := by rw [f 5 (by omega)]; rfl
            have f11 : w7.cell? ⟨g, k * 12 + 11, none⟩ = some (l[k]).2.2 := by rw [f 11 (by omega)]; rfl
            obtain ⟨ai, ci, ei, i1, i2, i3, _⟩ := ownsRow_cells (HR7.out.items l[k] (List.getElem_mem _))
            rw [ei] at f11
            obtain ⟨fn1, fn2⟩ := HFN.out _ (HMEM.out k hkl)
            rw [fn1] at f4
            have HS := HSN.out k hkl
            have HSL : Hid ((liesL (rn.take (k + 1))).length = (liesL (rn.take k)).length + (l[k]).1.items.length) := by
              show _ = _
              rw [HS, List.length_append]
            have hle2 := HLE.out (k + 1)
            rw [HSL.out] at hle2
            have lg := cell_lt f4
            have bk2 : decide ((k : Int) < (l.length : Int)) = true := decide_eq_true (by omega)
            generalize (l[k]).1.inside = ins at *
            generalize (l[k]).1.items.length = il at *
            generalize hq1 : (liesL (rn.take (k + 1))).length = t1 at *
            generalize (liesL (rn.take k)).length = t0 at *
            have HQ1 : Hid _ := hq1
            have e1 : t1 = t0 + il := HSL.out
            unfold maxLen at i2 i3
            clear HSN HLE HFN HMEM HALL HAT HEND H14 HR7 hq1 HSL f HS ei fn1
            subst e1
            by_cases lv0 : lv = 0
            · have hi0 : ins = 0 := fn2 lv0
              subst lv0
              subst hi0
              clear fn2
              go_wp2_with fail
              go_roundw
              case rel => exact ⟨k + 1, by omega, by go_num, by rw [HQ1.out]; go_num, trivial⟩
              case measure => simp [intOf]; omega
            · have bl : ((lv : Int) == 0) = false := by rw [beq_eq_false_iff_ne]; omega
              clear fn2
              go_wp2_with fail
              go_roundw
              case rel => exact ⟨k + 1, by omega, by go_num, by rw [HQ1.out]; go_num, trivial⟩
              case measure => simp [intOf]; omega
          · have ek : k = l.length := by omega
            subst ek
            have bk2 : decide ((l.length : Int) < (l.length : Int)) = false := decide_eq_false (by omega)
            rw [HALL.out] at hle ⊢
            have hend := HEND.out
            generalize (liesL rn).length = tot at *
            clear HSN HLE HFN HMEM HALL HR7 HEND
            have HEND : Hid _ := hend
            clear hend
            go_wp2_with fail
            go_loopw [15, 16] (fun pp _ wx => ∃ q : Nat, q ≤ ps.length ∧ pp = .int .i64 q ∧ Below w7.heap.size w7 wx) (fun pp _ _ => ps.length - (intOf pp).toNat)
            case atStart => exact ⟨0, Nat.zero_le _, rfl, Below.refl _ _⟩
            case round =>
              obtain ⟨q, hq, rfl, hbq⟩ := hrel
              have d9 := (hbq.cell (p := ⟨hb, 9, none⟩) l9).trans c9
              have ld := cell_lt d9
              by_cases hlt2 : q < ps.length
              · have hat := HAT.out _ hbq q hlt2
                have h14 := H14.out q hlt2
                generalize (ps[q]).2.phase = ph at *
                generalize (ps[q]).2.node = nd at *
                generalize (ps[q]).2.val = vl at *
                replace hat : Hid _ := hat
                have H14q : Hid _ := h14
                have bq : decide ((q : Int) < (ps.length : Int)) = true := decide_eq_true (by omega)
                clear HAT H14 h14
                go_wp2_with fail
                refine Calls.mono hat.out ?_
                rintro e w9 ⟨rfl, hb13⟩
                have hb14 : Below w7.heap.size w7 (w9.alloc (.cells #[I ph, I nd, I vl] 48)) := (hbq.trans (hb13.mono hbq.size)).alloc (Nat.le_trans hbq.size hb13.size) _
                clear hat hb13
                by_cases e14 : ph = 14
                · have t0 : tot = 0 := HEND.out (H14q.out e14)
                  have bt : decide ((0 : Int) < (tot : Int)) = false := decide_eq_false (by omega)
                  have bt2 : decide (0 < tot) = false := decide_eq_false (by omega)
                  clear t0
                  subst e14
                  go_wp2_with fail
                  go_roundw
                  case rel => exact ⟨q + 1, by omega, by go_num, hb14⟩
                  case measure => simp [intOf]; omega
                · have b14 : (ph == 14) = false := by rw [beq_eq_false_iff_ne]; exact e14
                  go_wp2_with fail
                  go_roundw
                  case rel => exact ⟨q + 1, by omega, by go_num, hb14⟩
                  case measure => simp [intOf]; omega
              · have bq : decide ((q : Int) < (ps.length : Int)) = false := decide_eq_false (by omega)
                go_wp2_with fail
                go_ret
                exact ⟨rfl, hb12.trans (hbq.mono hb12.size)⟩

end Go.Proofs.Ytjnmpejcegmkhab
