/- What holds of a counter's tree through every play of a hand (the document's tree alone). No statement of the seat is proved here. How long a process may still be on its way (P15): rounds of a counter, to the end. No statement of the seat is proved here. Rounds of a counter (P13, P15): what a step of a round does. No statement of the seat is proved here. The contract of package prismkeep's settle: behind P15's rounds everybody has arrived. No statement of the seat is proved here. The contract of package prismkeep's settle, of a counter: behind P15's rounds everybody is Done. No statement of the seat is proved here. The contract of package prismkeep's ended. No statement of the seat is proved here. Every number of a counter is below the number of Incs that were begun (the document's tree alone). No statement of the seat is proved here. Contracts of package prismkeep's up, still and even. No statement of the seat is proved here. The contract of package prismkeep's numbers: in a counter it answers true. No statement of the seat is proved here. The contract of package prismkeep's numbers: in a counter it answers true. No statement of the seat is proved here. Contracts of package prismkeep's begin. No statement of the seat is proved here. Arguments of the statements of package prismkeep, opened. No statement of the seat is proved here. The walk of the statement Counts: for every configuration, script and list of picks the call answers true, and what was there is as it was. -/
import Derived.Test.YtjnmpejcegmkhaaNumS
import Derived.Test.YtjnmpejcegmkhaaWorkA
import Derived.Deep.DeepCutAuto
import Derived.Deep.QuietTactic
import Derived.BigQuiet
import Derived.OwnWalk
import Derived.Test.YtjnmpejcegmkhaaRefStA
import Derived.Test.YtjnmpejcegmkhaaCInv
import Derived.Test.YtjnmpejcegmkhaaRows
import Derived.WalkKit
import Derived.ProofKit
import Derived.OpenShut
import Derived.Carry
import Derived.Lib.SmallJoins
import Derived.Deep.Slices
namespace Go.Proofs.Ytjnmpejcegmkhaa
open Go.RowKit

structure YOk (L : Lay) : Prop where
  met : MetOk L
  num : NumOk L

theorem YOk.step {c : Conf} {L : Lay} {P : PLay} (h : CRel c L P) (hc : c.kind = 0) (x : YOk L) {i : Nat} (hi : i < L.procs.length) (hl : (L.procs[i]).2.phase ≠ 20) (draw : Int) : YOk (lstep L i draw) := by
  obtain ⟨v, n, hh⟩ := h.rel.here hi hl
  exact ⟨hh.met h.ck hc draw x.met, hh.num h hc draw x.met x.num⟩

theorem YOk.lround {c : Conf} {L : Lay} {P : PLay} (h : CRel c L P) (hc : c.kind = 0) (x : YOk L) (d : Int) : ∀ k, k ≤ L.procs.length → YOk (lroundTo L d k)
  | 0, _ => x
  | k + 1, hk => by
    obtain ⟨⟨P', h'⟩, _, _⟩ := lround_keep h d k (by omega)
    have ih := YOk.lround h hc x d k (by omega)
    have hl : k < (lroundTo L d k).procs.length := by rw [lroundTo_len]; omega
    unfold lroundTo
    split
    · exact ih
    · rename_i hne
      have hp : ((lroundTo L d k).procs[k]).2.phase ≠ 20 := by
        rw [List.getD_eq_getElem?_getD, List.getElem?_eq_getElem hl] at hne
        exact hne
      exact YOk.step h' hc ih hl hp (d + k)
theorem YOk.lrest {c : Conf} {L : Lay} {P : PLay} (h : CRel c L P) (hc : c.kind = 0) (x : YOk L) (m : Int) : ∀ r, YOk (lrest L m r)
  | 0 => x
  | r + 1 => by
    obtain ⟨⟨P', h'⟩, _, _⟩ := lrest_keep h m r
    have ih := YOk.lrest h hc x m r
    unfold Go.Proofs.Ytjnmpejcegmkhaa.lrest
    exact YOk.lround h' hc ih (m + r) L.procs.length (by rw [lrest_len]; omega)

theorem YOk.spawn {c : Conf} {L : Lay} {P : PLay} (h : CRel c L P) (x : YOk L) (o : Op3) : YOk { L with procs := L.procs ++ [(0, newPr o)] } := by
  have hph : (newPr o).phase = 0 ∨ (newPr o).phase = 15 := by
    unfold newPr
    simp only
    split
    · exact Or.inr rfl
    · exact Or.inl rfl
  have get : ∀ i, (hi : i < (L.procs ++ [(0, newPr o)]).length) → (∃ hi0 : i < L.procs.length, (L.procs ++ [(0, newPr o)])[i] = L.procs[i]) ∨ ((L.procs ++ [(0, newPr o)])[i]).2 = newPr o := by
    intro i hi
    by_cases e : i < L.procs.length
    · exact Or.inl ⟨e, List.getElem_append_left e⟩
    · right
      have hi' := hi
      simp only [List.length_append, List.length_cons, List.length_nil] at hi'
      have e' : i = L.procs.length := by omega
      subst e'
      simp
  have nend : ¬ endedI (toPP (newPr o)) := by
    rintro ⟨_, a⟩
    have a' : (newPr o).phase = 19 ∨ (newPr o).phase = 20 := a
    omega
  refine ⟨fun i hi => ?_, ⟨fun i hi he => ?_, fun i j hi hj hne hei hej => ?_⟩⟩
  · rcases get i hi with ⟨hi0, e⟩ | e
    · show MetQ (L.procs ++ [(0, newPr o)]) ((L.procs ++ [(0, newPr o)])[i]).2
      rw [e]
      have hq := x.met i hi0
      refine ⟨fun a b => ?_, hq.2⟩
      have hlt : (L.procs[i]).2.met.toNat < L.procs.length := by
        obtain ⟨v, n, hh⟩ := h.rel.here hi0 (by omega)
        obtain ⟨k, hk, hs⟩ := hh.slotk
        obtain ⟨_, hx⟩ := hh.mine a hk hs (hh.inner (by omega) (by omega))
        rcases hx with ⟨_, _, e⟩ | ⟨_, b, _, e, hb, _⟩
        · omega
        · omega
      rw [kindAt_app hlt]
      exact hq.1 a b
    · show MetQ (L.procs ++ [(0, newPr o)]) ((L.procs ++ [(0, newPr o)])[i]).2
      rw [e]
      exact ⟨fun a => by omega, fun _ => by omega⟩
  · rcases get i hi with ⟨hi0, e⟩ | e
    · show Iss L ((L.procs ++ [(0, newPr o)])[i]).2.val
      have he' : endedI (toPP ((L.procs ++ [(0, newPr o)])[i]).2) := he
      rw [e] at he' ⊢
      exact x.num.iss i hi0 he'
    · have he' : endedI (toPP ((L.procs ++ [(0, newPr o)])[i]).2) := he
      rw [e] at he'
      exact absurd he' nend
  · have hei' : endedI (toPP ((L.procs ++ [(0, newPr o)])[i]).2) := hei
    have hej' : endedI (toPP ((L.procs ++ [(0, newPr o)])[j]).2) := hej
    show ((L.procs ++ [(0, newPr o)])[i]).2.val ≠ ((L.procs ++ [(0, newPr o)])[j]).2.val
    rcases get i hi with ⟨hi0, e⟩ | e
    · rcases get j hj with ⟨hj0, e'⟩ | e'
      · rw [e] at hei' ⊢
        rw [e'] at hej' ⊢
        exact x.num.diff i j hi0 hj0 hne hei' hej'
      · rw [e'] at hej'
        exact absurd hej' nend
    · rw [e] at hei'
      exact absurd hei' nend

theorem YOk.new (c : Conf) : YOk (newLay c) := ⟨fun _ hi => absurd hi (Nat.not_lt_zero _), ⟨fun _ hi => absurd hi (Nat.not_lt_zero _), fun _ _ hi => absurd hi (Nat.not_lt_zero _)⟩⟩

theorem YOk.play {w : World} {B hb : Nat} {c : Conf} {S : Gh} {P : PLay} (h : KSt w B hb c S P) (hc : c.kind = 0) (x : YOk S.L) (k a b : Int) : YOk (gplay c S k a b).L := by
  unfold gplay
  split
  · unfold gstep
    split
    · rename_i hh
      have hi : a.toNat < S.L.procs.length := by omega
      have h20 := hh.2.2
      rw [phaseAt_eq S.L _ hi] at h20
      exact YOk.step h.rel hc x hi h20 b
    · exact x
  · split
    · unfold grest
      split
      · exact YOk.lrest h.rel hc x _ _
      · exact x
    · split
      · unfold gspawn
        split
        · exact YOk.spawn h.rel x _
        · exact x
      · exact x

end Go.Proofs.Ytjnmpejcegmkhaa

namespace Go.Proofs.Ytjnmpejcegmkhaa
open Go.RowKit

def doneQ (q : PP) : Prop := q.phase = 20

theorem SQ.own2 {c : Conf} {l : List PP} {j v : Nat} {q q' : PP} (h : SQ c l j v q q') (hna : q.phase ≠ 13 ∧ q.phase ≠ 14) :
    phi c (l.set j q') q' ≤ phi c l q ∧ (¬ (q.phase ≤ 2 ∧ shQ v l = true) → phi c (l.set j q') q' + 1 ≤ phi c l q) ∧ (q.phase ≤ 2 ∧ shQ v l = true → q'.phase ≤ 2 ∧ q'.node = (v : Int)) := by
  have hs := sumQ_set (holdQ c) l j h.hj q'
  rw [h.eq] at hs
  have hat := h.at'
  have hpm := h.pm
  have hd : dQ q ≤ c.depth.toNat := by
    unfold dQ
    rw [hat, Int.toNat_natCast]
    have := (Nat.log2_lt (show v ≠ 0 by have := h.v1; omega)).2 h.vD
    omega
  have hdv : dQ q = Nat.log2 v := by unfold dQ; rw [hat, Int.toNat_natCast]
  have hd' : q'.phase ≠ 20 → dQ q' ≤ c.depth.toNat := by
    intro h20
    obtain ⟨u, e, u1, u2⟩ := h.node h20
    unfold dQ
    rw [e, Int.toNat_natCast]
    have := (Nat.log2_lt (show u ≠ 0 by omega)).2 u2
    omega
  have hin : 3 ≤ q.phase → q.phase ≤ 11 → dQ q < c.depth.toNat := by
    intro a b
    have h1 := h.inn a b
    have h2 := (Nat.log2_lt (show 2 * v + 1 ≠ 0 by omega)).2 h1
    have h3 := (log2_kid ⟨v, h.v32⟩ h.v1).2
    simp only at h3
    omega
  have hk0 : q'.node = (v : Int) → dQ q' = dQ q := by
    intro e
    rw [hdv]
    unfold dQ
    rw [e, Int.toNat_natCast]
  have hk1 : q'.node / 2 = (v : Int) → dQ q' = dQ q + 1 := by
    intro e
    have h3 := log2_kid ⟨v, h.v32⟩ h.v1
    simp only at h3
    rw [hdv]
    unfold dQ
    have : q'.node.toNat = 2 * v ∨ q'.node.toNat = 2 * v + 1 := by omega
    rcases this with x | x
    · rw [x]; exact h3.1
    · rw [x]; exact h3.2
  have hku : q'.node = (v : Int) / 2 → (v : Int) / 2 ≠ 0 → dQ q = dQ q' + 1 := by
    intro e e0
    have h3 := log2_up ⟨v, h.v32⟩ h.v1 (by show v / 2 ≠ 0; omega)
    simp only at h3
    rw [hdv]
    unfold dQ
    have : q'.node.toNat = v / 2 := by omega
    rw [this]
    exact h3
  have hsh : q.phase ≤ 2 → q'.phase ≤ 2 → q'.node = (v : Int) → shQ q'.node (l.set j q') = shQ v l := by
    intro a b e
    rw [e]
    refine shQ_set l j h.hj q' ?_
    rw [h.eq]
    have e1 : inHold (v : Int) q' = false := by
      cases hh : inHold (v : Int) q'
      · rfl
      · have := (inHold_iff _ _).1 hh; omega
    have e2 : inHold (v : Int) q = false := by
      cases hh : inHold (v : Int) q
      · rfl
      · have := (inHold_iff _ _).1 hh; omega
    rw [e1, e2]
  have hst : ¬ (q.phase = 13 ∧ q'.phase = 13) ∧ ¬ (q.phase = 14 ∧ q'.phase = 14) := ⟨fun x => hna.1 x.1, fun x => hna.2 x.1⟩
  obtain ⟨w1, w2⟩ := work_own h.spin0 h.drain0 hpm (shQ v l) (shQ q'.node (l.set j q')) q.kind q.pat q'.pat (dQ q) (dQ q') h.ka h.kb hd hd' hin hk0 hk1 hku hsh h.look (fun x => (h.wait x).1) (fun x => (h.wait x).2) h.claim h.shut (fun x => (h.drain x).1) (fun x => (h.drain x).2) hst
  have e0 : phi c l q = work c.depth.toNat c.spin c.drain (shQ v l) q.kind q.phase q.pat (dQ q) + sumQ (holdQ c) l - holdQ c q := by unfold phi workQ; rw [hat]
  have e1 : phi c (l.set j q') q' = work c.depth.toNat c.spin c.drain (shQ q'.node (l.set j q')) q.kind q'.phase q'.pat (dQ q') + sumQ (holdQ c) (l.set j q') - holdQ c q' := by unfold phi workQ; rw [h.kind]
  rw [e0, e1]
  refine ⟨by omega, fun x => by have := w1 x; omega, fun x => ?_⟩
  obtain ⟨x1, x2⟩ := x
  have hpl := hpm.live
  by_cases e1 : q.phase = 1
  · have e2 := (h.look e1).2 x2
    exact ⟨by omega, hpm.back1 e1 e2⟩
  · have := hpm.low (by omega)
    exact ⟨this.2, this.1⟩

/-- In the midst of a round that began with l0; dn: who has had its turn. -/
structure RC (c : Conf) (l0 l : List PP) (dn : List Nat) : Prop where
  len : l.length = l0.length
  keep : ∀ i, (hi : i < l.length) → (h0 : i < l0.length) → doneQ l0[i] → doneQ l[i]
  r1 : ∀ i, (hi : i < l.length) → (h0 : i < l0.length) → doneQ l[i] ∨ phi c l l[i] ≤ phi c l0 l0[i]
  r2 : ∀ x, x ∈ dn → (hx : x < l.length) → 16 ≤ (l[x]).phase → (l[x]).phase ≤ 18 → ∀ i, (hi : i < l.length) → (h0 : i < l0.length) → i ≠ x → doneQ l[i] ∨ phi c l l[i] + 1 ≤ phi c l0 l0[i]
  r3 : ∀ i, i ∈ dn → (hi : i < l.length) → (h0 : i < l0.length) → doneQ l[i] ∨ phi c l l[i] + 1 ≤ phi c l0 l0[i] ∨ ((l[i]).phase ≤ 2 ∧ ∃ x, ∃ hx : x < l.length, x ∉ dn ∧ inHold (l[i]).node l[x] = true)

theorem RC.start (c : Conf) (l : List PP) : RC c l l [] :=
  ⟨rfl, fun _ _ _ h => h, fun _ _ _ => Or.inr (Int.le_refl _), fun x hx => by simp at hx, fun i hi => by simp at hi⟩

theorem RC.skip {c : Conf} {l0 l : List PP} {dn : List Nat} (h : RC c l0 l dn) (j : Nat) (hj : j < l.length) (h20 : (l[j]).phase = 20) : RC c l0 l (j :: dn) := by
  refine ⟨h.len, h.keep, h.r1, fun x hx hxl a b i hi h0 hne => ?_, fun i hi hil h0 => ?_⟩
  · rcases List.mem_cons.1 hx with e | e
    · subst e; omega
    · exact h.r2 x e hxl a b i hi h0 hne
  · rcases List.mem_cons.1 hi with e | e
    · subst e
      exact Or.inl h20
    · rcases h.r3 i e hil h0 with a | a | ⟨a, x, hx, b, d⟩
      · exact Or.inl a
      · exact Or.inr (Or.inl a)
      · refine Or.inr (Or.inr ⟨a, x, hx, fun hm => ?_, d⟩)
        rcases List.mem_cons.1 hm with e' | e'
        · subst e'
          have := (inHold_iff _ _).1 d
          omega
        · exact b e'

theorem RC.step {c : Conf} {l0 l : List PP} {dn : List Nat} (h : RC c l0 l dn) {j v : Nat} {q q' : PP} (hs : SQ c l j v q q') (hsf : q.phase ≠ 13 ∧ q.phase ≠ 14) : RC c l0 (l.set j q') (j :: dn) := by
  have hj := hs.hj
  have hq := hs.eq
  have hpm := hs.pm
  have hpl := hpm.live
  have hl := h.len
  have arr : doneQ q → doneQ q' := fun a => absurd a hpl.1
  have hat := hs.at'
  have get : ∀ i, (hi : i < l.length) → (hi' : i < (l.set j q').length) → i ≠ j → (l.set j q')[i] = l[i] := fun i hi hi' e => List.getElem_set_ne (Ne.symm e) _
  have self : ∀ hi' : j < (l.set j q').length, (l.set j q')[j] = q' := fun _ => List.getElem_set_self _
  have own := fun (_ : ¬ doneQ q) => hs.own2 hsf
  have r1j : ∀ h0 : j < l0.length, doneQ q ∨ phi c l q ≤ phi c l0 l0[j] := by
    intro h0
    have := h.r1 j hj h0
    rw [hq] at this
    exact this
  refine ⟨by simpa using hl, fun i hi' h0 ha => ?_, fun i hi' h0 => ?_, fun x hx hx' a b i hi' h0 hne => ?_, fun i him hi' h0 => ?_⟩
  · have hi : i < l.length := by simpa using hi'
    have hk := h.keep i hi h0 ha
    by_cases e : i = j
    · subst e
      rw [self]
      rw [hq] at hk
      exact arr hk
    · rw [get i hi hi' e]
      exact hk
  · have hi : i < l.length := by simpa using hi'
    by_cases e : i = j
    · subst e
      rw [self]
      by_cases na : doneQ q
      · exact Or.inl (arr na)
      · rcases r1j h0 with x | x
        · exact absurd x na
        · exact Or.inr (Int.le_trans (own na).1 x)
    · rw [get i hi hi' e]
      rcases h.r1 i hi h0 with x | x
      · exact Or.inl x
      · exact Or.inr (Int.le_trans (hs.other i hi e).1 x)
  · have hi : i < l.length := by simpa using hi'
    have hxl : x < l.length := by simpa using hx'
    by_cases exj : x = j
    · subst exj
      rw [self] at a b
      obtain ⟨p1, p2⟩ := hpm.into ⟨a, b⟩
      rw [get i hi hi' hne]
      rcases h.r1 i hi h0 with z | z
      · exact Or.inl z
      · have := (hs.other i hi hne).2 p1 p2
        exact Or.inr (by omega)
    · have hxd : x ∈ dn := by
        rcases List.mem_cons.1 hx with e | e
        · exact absurd e exj
        · exact e
      rw [get x hxl hx' exj] at a b
      by_cases e : i = j
      · subst e
        rw [self]
        by_cases na : doneQ q
        · exact Or.inl (arr na)
        · have := h.r2 x hxd hxl a b i hi h0 hne
          rw [hq] at this
          rcases this with z | z
          · exact absurd z na
          · have := (own na).1
            exact Or.inr (by omega)
      · rw [get i hi hi' e]
        rcases h.r2 x hxd hxl a b i hi h0 hne with z | z
        · exact Or.inl z
        · have := (hs.other i hi e).1
          exact Or.inr (by omega)
  · have hi : i < l.length := by simpa using hi'
    by_cases e : i = j
    · subst e
      rw [self]
      by_cases na : doneQ q
      · exact Or.inl (arr na)
      · obtain ⟨o1, o2, o3⟩ := own na
        rcases r1j h0 with z | z
        · exact absurd z na
        · by_cases bl : q.phase ≤ 2 ∧ shQ v l = true
          · obtain ⟨x, hx, ex⟩ := shQ_ex bl.2
            have hh := (inHold_iff _ _).1 ex
            have hxi : x ≠ i := by
              intro e
              subst e
              rw [hq] at hh
              omega
            by_cases hxd : x ∈ dn
            · have := h.r2 x hxd hx hh.2.1 hh.2.2 i hi h0 (Ne.symm hxi)
              rw [hq] at this
              rcases this with y | y
              · exact absurd y na
              · exact Or.inr (Or.inl (by omega))
            · obtain ⟨y1, y2⟩ := o3 bl
              refine Or.inr (Or.inr ⟨y1, x, by simpa using hx, fun hm => ?_, ?_⟩)
              · rcases List.mem_cons.1 hm with e' | e'
                · exact hxi e'
                · exact hxd e'
              · rw [y2, get x hx (by simpa using hx) hxi]
                exact ex
          · have := o2 bl
            exact Or.inr (Or.inl (by omega))
    · have hid : i ∈ dn := by
        rcases List.mem_cons.1 him with e' | e'
        · exact absurd e' e
        · exact e'
      rw [get i hi hi' e]
      rcases h.r3 i hid hi h0 with z | z | ⟨z, x, hx, hxd, ex⟩
      · exact Or.inl z
      · have := (hs.other i hi e).1
        exact Or.inr (Or.inl (by omega))
      · by_cases exj : x = j
        · subst exj
          have hh := (inHold_iff _ _).1 ex
          rw [hq] at hh
          rcases h.r1 i hi h0 with y | y
          · exact Or.inl y
          · have := (hs.other i hi e).2 (by omega) (by omega)
            exact Or.inr (Or.inl (by omega))
        · refine Or.inr (Or.inr ⟨z, x, by simpa using hx, fun hm => ?_, ?_⟩)
          · rcases List.mem_cons.1 hm with e' | e'
            · exact exj e'
            · exact hxd e'
          · rw [get x hx (by simpa using hx) exj]
            exact ex

theorem RC.round {c : Conf} {l0 l : List PP} {dn : List Nat} (h : RC c l0 l dn) (hall : ∀ i, (hi : i < l.length) → i ∈ dn ∨ (l[i]).phase = 20) (i : Nat) (hi : i < l.length) (h0 : i < l0.length) : doneQ l[i] ∨ phi c l l[i] + 1 ≤ phi c l0 l0[i] := by
  rcases hall i hi with hd | hd
  · rcases h.r3 i hd hi h0 with z | z | ⟨_, x, hx, hxd, ex⟩
    · exact Or.inl z
    · exact Or.inr z
    · exfalso
      have hh := (inHold_iff _ _).1 ex
      rcases hall x hx with y | y
      · exact hxd y
      · omega
  · exact Or.inl hd

end Go.Proofs.Ytjnmpejcegmkhaa

namespace Go.Proofs.Ytjnmpejcegmkhaa
open Go.RowKit

theorem phi_up2 {c : Conf} {L : Lay} {P : PLay} (h : CRel c L P) (pk : PatOk c L) {i : Nat} (hi : i < L.procs.length) : ((L.procs[i]).2.phase ≠ 20 → 1 ≤ phi c (toPPs L.procs) (toPP (L.procs[i]).2)) ∧ phi c (toPPs L.procs) (toPP (L.procs[i]).2) ≤ calmR c := by
  have hcf := h.rel.confs
  have hd0 := h.rel.drain0
  obtain ⟨a1, a2, a3⟩ := sum_hold hd0.1 L.procs pk
  have a3i := a3 i hi
  have hfull := h.rel.full
  obtain ⟨h1, h2, h3⟩ := hold_range c.drain (L.procs[i]).2.kind (L.procs[i]).2.phase (L.procs[i]).2.pat hd0.1 (pk i hi).2
  have e1 : holdQ c (toPP (L.procs[i]).2) = holdW c.drain (L.procs[i]).2.kind (L.procs[i]).2.phase (L.procs[i]).2.pat := rfl
  rw [e1] at a3i
  have hmul : (liveL L.procs : Int) * (c.drain + 6) ≤ c.procs * (c.drain + 6) := Int.mul_le_mul_of_nonneg_right hfull (by omega)
  have hcalm : calmR c = c.procs * (c.drain + 6) + 2 * c.procs + (c.drain + 8) + (c.depth + 1) * (c.spin + 12) := by
    unfold calmR
    have : (c.procs + 1) * (c.drain + 8) = c.procs * (c.drain + 6) + 2 * c.procs + (c.drain + 8) := by
      rw [Int.add_mul, Int.one_mul]
      have : c.drain + 8 = (c.drain + 6) + 2 := by omega
      rw [this, Int.mul_add]
      omega
    omega
  by_cases h20 : (L.procs[i]).2.phase = 20
  · have ew : workQ c (shQ (toPP (L.procs[i]).2).node (toPPs L.procs)) (toPP (L.procs[i]).2) = 0 := by
      unfold workQ
      show work _ _ _ _ _ (L.procs[i]).2.phase _ _ = 0
      rw [h20]
      simp [work]
    have hD0 : 0 ≤ (c.depth + 1) * (c.spin + 12) := Int.mul_nonneg (by omega) (by omega)
    refine ⟨fun na => absurd h20 na, ?_⟩
    unfold Go.Proofs.Ytjnmpejcegmkhaa.phi
    rw [ew, e1, hcalm]
    omega
  · obtain ⟨v, n, hh⟩ := h.rel.here hi h20
    have hph := hh.q.phase
    have hdv : dQ (toPP (L.procs[i]).2) = Nat.log2 v := by
      unfold dQ
      show Nat.log2 (L.procs[i]).2.node.toNat = _
      rw [hh.at', Int.toNat_natCast]
    have hvD : v < 2 ^ (c.depth.toNat + 1) := by rw [← h.rel.len]; exact hh.vN
    have hd : dQ (toPP (L.procs[i]).2) ≤ c.depth.toNat := by
      rw [hdv]
      have := (Nat.log2_lt (show v ≠ 0 by have := hh.v1; omega)).2 hvD
      omega
    have hin : 3 ≤ (L.procs[i]).2.phase → (L.procs[i]).2.phase ≤ 11 → dQ (toPP (L.procs[i]).2) < c.depth.toNat := by
      intro a b
      have hf := hh.q.inner a b
      rw [hh.at', Int.toNat_natCast] at hf
      have hk := (h.rel.kids v hh.v1 hh.vN hf).1
      rw [h.rel.len] at hk
      have h2 := (Nat.log2_lt (show 2 * v + 1 ≠ 0 by omega)).2 hk
      have h3 := (log2_kid ⟨v, hh.v32⟩ hh.v1).2
      simp only at h3
      omega
    obtain ⟨w1, w2⟩ := work_range (D := c.depth.toNat) (by omega) (s := c.spin) (r := c.drain) (by omega) hd0.1 (shQ (toPP (L.procs[i]).2).node (toPPs L.procs)) (L.procs[i]).2.kind (L.procs[i]).2.phase (L.procs[i]).2.pat (dQ (toPP (L.procs[i]).2)) hd (pk i hi).1 (pk i hi).2 hin (by omega)
    have ew : workQ c (shQ (toPP (L.procs[i]).2).node (toPPs L.procs)) (toPP (L.procs[i]).2) = work c.depth.toNat c.spin c.drain (shQ (toPP (L.procs[i]).2).node (toPPs L.procs)) (L.procs[i]).2.kind (L.procs[i]).2.phase (L.procs[i]).2.pat (dQ (toPP (L.procs[i]).2)) := rfl
    have eD : ((c.depth.toNat : Int) + 1) * (c.spin + 12) = (c.depth + 1) * (c.spin + 12) := by rw [Int.toNat_of_nonneg (by omega)]
    rw [eD] at w2
    unfold Go.Proofs.Ytjnmpejcegmkhaa.phi
    rw [ew, e1, hcalm]
    exact ⟨fun _ => by omega, by omega⟩

/-- What holds of a counter's tree. -/
structure ZOk (c : Conf) (L : Lay) : Prop where
  ck : c.kind = 0
  x : XOk c L
  y : YOk L
theorem ZOk.step {c : Conf} {L : Lay} {P : PLay} (h : CRel c L P) (z : ZOk c L) {i : Nat} (hi : i < L.procs.length) (hl : (L.procs[i]).2.phase ≠ 20) (draw : Int) : ZOk c (lstep L i draw) :=
  ⟨z.ck, XOk.step h z.x hi hl draw, YOk.step h z.ck z.y hi hl draw⟩
theorem ZOk.new {c : Conf} (hc : c.kind = 0) : ZOk c (newLay c) := ⟨hc, XOk.new c, YOk.new c⟩
theorem ZOk.play {w : World} {B hb : Nat} {c : Conf} {S : Gh} {P : PLay} (h : KSt w B hb c S P) (z : ZOk c S.L) (k a b : Int) : ZOk c (gplay c S k a b).L :=
  ⟨z.ck, XOk.play h z.x k a b, YOk.play h z.ck z.y k a b⟩
/-- In a counter nobody stands in Store or in Fetch. -/
theorem ZOk.still {c : Conf} {L : Lay} {P : PLay} (z : ZOk c L) (h : CRel c L P) {i : Nat} (hi : i < L.procs.length) (hl : (L.procs[i]).2.phase ≠ 20) : (toPP (L.procs[i]).2).phase ≠ 13 ∧ (toPP (L.procs[i]).2).phase ≠ 14 := by
  obtain ⟨v, q', hs, _⟩ := h.sq z.x.pat hi hl 0
  have hq := h.rel.qs i hi
  have hk := z.ck
  have e1 : (toPP (L.procs[i]).2).phase = (L.procs[i]).2.phase := rfl
  have e2 : (toPP (L.procs[i]).2).kind = (L.procs[i]).2.kind := rfl
  have k2 := hs.ka.chg
  rw [e1]
  rw [e1, e2] at k2
  refine ⟨fun e => ?_, fun e => ?_⟩
  · have := (hq.tick.2.2 e).1
    omega
  · rcases hq.kind with ⟨_, x⟩ | ⟨x, _⟩ | x | x
    · exact (z.y.met i hi).2 x e
    · omega
    · have := k2 (by omega); omega
    · have := k2 (by omega); omega

/-- In the midst of a round. -/
def CetSt (W : World) (B hb : Nat) (c : Conf) (n : Nat) (liv : List Nat) (l0 : List PP) (dn : List Nat) : Prop :=
  ∃ S P, KSt W B hb c S P ∧ ZOk c S.L ∧ S.L.procs.length = n ∧ RC c l0 (toPPs S.L.procs) dn ∧ ∀ i, (hi : i < S.L.procs.length) → i ∉ liv → (S.L.procs[i]).2.phase = 20
/-- Between two rounds. -/
def CetR (W : World) (B hb : Nat) (c : Conf) (n : Nat) (liv : List Nat) (k : Nat) : Prop :=
  ∃ S P, KSt W B hb c S P ∧ ZOk c S.L ∧ S.L.procs.length = n ∧ (∀ i, (hi : i < S.L.procs.length) → doneQ (toPP (S.L.procs[i]).2) ∨ phi c (toPPs S.L.procs) (toPP (S.L.procs[i]).2) + k ≤ calmR c) ∧ ∀ i, (hi : i < S.L.procs.length) → i ∉ liv → (S.L.procs[i]).2.phase = 20

theorem CetSt.below {W W' : World} {B hb : Nat} {c : Conf} {n : Nat} {liv : List Nat} {l0 : List PP} {dn : List Nat} (h : CetSt W B hb c n liv l0 dn) (hb' : Below W.heap.size W W') : CetSt W' B hb c n liv l0 dn := by
  obtain ⟨S, P, a, r⟩ := h
  exact ⟨S, P, a.below hb', r⟩
theorem CetR.below {W W' : World} {B hb : Nat} {c : Conf} {n : Nat} {liv : List Nat} {k : Nat} (h : CetR W B hb c n liv k) (hb' : Below W.heap.size W W') : CetR W' B hb c n liv k := by
  obtain ⟨S, P, a, r⟩ := h
  exact ⟨S, P, a.below hb', r⟩

theorem CetR.round {W : World} {B hb : Nat} {c : Conf} {n : Nat} {liv : List Nat} {k : Nat} (h : CetR W B hb c n liv k) : ∃ l0, l0.length = n ∧ (∀ i, (hi : i < l0.length) → doneQ l0[i] ∨ phi c l0 l0[i] + k ≤ calmR c) ∧ CetSt W B hb c n liv l0 [] := by
  obtain ⟨S, P, a, b, d, e, f⟩ := h
  refine ⟨toPPs S.L.procs, by rw [toPPs_len]; exact d, fun i hi => ?_, S, P, a, b, d, RC.start c _, f⟩
  have hi' : i < S.L.procs.length := by rw [toPPs_len] at hi; exact hi
  rw [toPPs_at _ _ hi' hi]
  exact e i hi'

theorem CetSt.done {W : World} {B hb : Nat} {c : Conf} {n : Nat} {liv : List Nat} {l0 : List PP} {dn : List Nat} {k : Nat} (h : CetSt W B hb c n liv l0 dn) (h0 : ∀ i, (hi : i < l0.length) → doneQ l0[i] ∨ phi c l0 l0[i] + k ≤ calmR c) (hall : ∀ x, x ∈ liv → x ∈ dn) : CetR W B hb c n liv (k + 1) := by
  obtain ⟨S, P, a, b, d, e, f⟩ := h
  refine ⟨S, P, a, b, d, fun i hi => ?_, f⟩
  have hi' : i < (toPPs S.L.procs).length := by rw [toPPs_len]; exact hi
  have hl := e.len
  have h1 := e.round (fun j hj => ?_) i hi' (by omega)
  · rw [toPPs_at _ _ hi hi'] at h1
    rcases h1 with x | x
    · exact Or.inl x
    · rcases h0 i (by omega) with y | y
      · have := e.keep i hi' (by omega) y
        rw [toPPs_at _ _ hi hi'] at this
        exact Or.inl this
      · exact Or.inr (by push_cast; omega)
  · have hj' : j < S.L.procs.length := by rw [toPPs_len] at hj; exact hj
    by_cases hm : j ∈ liv
    · exact Or.inl (hall j hm)
    · right
      rw [toPPs_at _ _ hj' hj]
      exact f j hj' hm

theorem CetSt.at {W : World} {B hb : Nat} {c : Conf} {n : Nat} {liv : List Nat} {l0 : List PP} {dn : List Nat} (h : CetSt W B hb c n liv l0 dn) (i : Nat) (hi : i < n) :
    ∃ ph nd vl : Int, (∀ W', Below W.heap.size W W' → Calls Try.prog 44 #[.pointer (some ⟨hb, 0, none⟩), I i] W' fun e w' => e = .returned (.agg #[I ph, I nd, I vl]) ∧ Below W'.heap.size W' w') ∧
      (ph = 20 → CetSt W B hb c n liv l0 (i :: dn)) ∧ (ph ≠ 20 → ∀ W', Below W.heap.size W W' → ∀ draw : Int, Calls Try.prog 43 #[.pointer (some ⟨hb, 0, none⟩), I i, I draw] W' fun e w' => e = .returned (.bool true) ∧ CetSt w' B hb c n liv l0 (i :: dn) ∧ ChgT B KS W' w') := by
  obtain ⟨S, P, a, b, d, e, f⟩ := h
  subst d
  refine ⟨(S.L.procs[i]).2.phase, (S.L.procs[i]).2.node, (S.L.procs[i]).2.val, fun W' hw => a.at hw i hi, fun h20 => ?_, fun h20 W' hw draw => ?_⟩
  · exact ⟨S, P, a, b, rfl, e.skip i (by rw [toPPs_len]; exact hi) (by rw [toPPs_at _ _ hi]; exact h20), f⟩
  · refine (hstep2_c (a.below hw) (i : Int) draw).mono ?_
    rintro x w' ⟨rfl, ⟨P', hk⟩, hc⟩
    refine ⟨rfl, ?_, hc⟩
    have eg : gstep S i draw = ⟨lstep S.L i draw, S.ops, S.went.set i true⟩ := by
      unfold gstep
      rw [if_pos ⟨by omega, by omega, by rw [Int.toNat_natCast, phaseAt_eq S.L i hi]; exact h20⟩, Int.toNat_natCast]
    rw [eg] at hk
    obtain ⟨v, q', hs, hp, _, _⟩ := a.rel.sq b.x.pat hi h20 draw
    have hlen : (lstep S.L i draw).procs.length = S.L.procs.length := by
      have := congrArg List.length hp
      simpa [toPPs] using this
    refine ⟨_, P', hk, ZOk.step a.rel b hi h20 draw, hlen, ?_, fun j hj hnm => ?_⟩
    · show RC c l0 (toPPs (lstep S.L i draw).procs) (i :: dn)
      rw [hp]
      exact e.step hs (b.still a.rel hi h20)
    · have hj' : j < (lstep S.L i draw).procs.length := hj
      have hj0 : j < S.L.procs.length := by omega
      have h20j := f j hj0 hnm
      have hne : j ≠ i := by
        intro e
        subst e
        exact h20 h20j
      have e1 : (toPPs (lstep S.L i draw).procs)[j]? = (toPPs S.L.procs)[j]? := by
        rw [hp, List.getElem?_set_ne (Ne.symm hne)]
      have e2 : (toPPs (lstep S.L i draw).procs)[j]? = some (toPP ((lstep S.L i draw).procs[j]).2) := by simp [toPPs, hj']
      have e3 : (toPPs S.L.procs)[j]? = some (toPP (S.L.procs[j]).2) := by simp [toPPs, hj0]
      rw [e2, e3] at e1
      have := pp_told (Option.some.inj e1)
      show ((lstep S.L i draw).procs[j]).2.phase = 20
      rw [this.2.2.2.1]
      exact h20j

theorem CetSt.start {W : World} {B hb : Nat} {c : Conf} {S : Gh} {P : PLay} (h : KSt W B hb c S P) (pk : ZOk c S.L) : CetR W B hb c S.L.procs.length (livTo S.L.procs S.L.procs.length) 0 := by
  refine ⟨S, P, h, pk, rfl, fun i hi => Or.inr ?_, fun i hi hn => livTo_no S.L.procs _ i hi hi hn⟩
  have := (phi_up2 h.rel pk.x.pat hi).2
  simpa using this

theorem CetR.all {W : World} {B hb : Nat} {c : Conf} {n : Nat} {liv : List Nat} {k : Nat} (h : CetR W B hb c n liv k) (hk : calmR c ≤ k) : ∃ S P, KSt W B hb c S P ∧ ZOk c S.L ∧ S.L.procs.length = n ∧ ∀ i, (hi : i < S.L.procs.length) → doneQ (toPP (S.L.procs[i]).2) := by
  obtain ⟨S, P, a, b, d, e, f⟩ := h
  refine ⟨S, P, a, b, d, fun i hi => ?_⟩
  rcases e i hi with x | x
  · exact x
  · by_cases na : doneQ (toPP (S.L.procs[i]).2)
    · exact na
    · have := (phi_up2 a.rel b.x.pat hi).1 na
      exfalso
      omega
theorem CetR.none {W : World} {B hb : Nat} {c : Conf} {n : Nat} {k : Nat} (h : CetR W B hb c n [] k) : ∃ S P, KSt W B hb c S P ∧ ZOk c S.L ∧ S.L.procs.length = n ∧ ∀ i, (hi : i < S.L.procs.length) → doneQ (toPP (S.L.procs[i]).2) := by
  obtain ⟨S, P, a, b, d, e, f⟩ := h
  exact ⟨S, P, a, b, d, fun i hi => f i hi (by simp)⟩

end Go.Proofs.Ytjnmpejcegmkhaa

namespace Go.Proofs.Ytjnmpejcegmkhaa
open Go.RowKit

/-- Which of n things the raw number x speaks of. -/
def pickV (x : Int) (n : Nat) : Nat := ((if x < 0 then -(x + 1) else x) % (n : Int)).toNat
theorem pickV_lt (x : Int) (n : Nat) (hn : 1 ≤ n) : pickV x n < n := by
  unfold pickV
  have := Int.emod_lt_of_pos (if x < 0 then -(x + 1) else x) (show 0 < (n : Int) by omega)
  have := Int.emod_nonneg (if x < 0 then -(x + 1) else x) (show (n : Int) ≠ 0 by omega)
  omega

theorem pick_f (x : Int) (hx0 : -9223372036854775808 ≤ x) (n : Nat) (hn : 1 ≤ n) (hn9 : n ≤ 2000000000000) (w : World) : Calls Try.prog 16 #[I x, I n] w fun e w' => e = .returned (I (pickV x n)) ∧ w' = w := by
  have hne : ((n : Int) == 0) = false := by simp; omega
  by_cases hx : x < 0
  · have hv : 0 ≤ -(x + 1) := by omega
    have HR : Hid (-((x + 1).tmod n) = ((pickV x n : Nat) : Int)) := by
      show _ = _
      unfold pickV
      rw [if_pos hx, ← Int.neg_tmod, Int.tmod_eq_emod_of_nonneg hv]
      have := Int.emod_nonneg (-(x + 1)) (show (n : Int) ≠ 0 by omega)
      omega
    generalize pickV x n = pk at *
    go_enter Try.func16, Try.ntmps16
    go_wp2
    go_ret
    exact ⟨ret_i HR.out, rfl⟩
  · have hd : decide (x < 0) = false := by simp; omega
    have HR : Hid (x % n = ((pickV x n : Nat) : Int)) := by
      show _ = _
      unfold pickV
      rw [if_neg hx]
      have := Int.emod_nonneg x (show (n : Int) ≠ 0 by omega)
      omega
    generalize pickV x n = pk at *
    go_enter Try.func16, Try.ntmps16
    go_wp2
    go_ret
    exact ⟨ret_i HR.out, rfl⟩

/-- A list of raw numbers that lies below B. -/
structure PicksAt (w : World) (B : Nat) (v : Value) (n : Nat) (f : Nat → Int) : Prop where
  form : ∃ ao cap, v = .slice ao n cap ∧ n ≤ cap ∧ n ≤ maxLen ∧ ∀ i, i < n → -9223372036854775808 ≤ f i ∧ ∃ b off, ao = some ⟨b, off, none⟩ ∧ b < B ∧ b < w.heap.size ∧ w.cell? ⟨b, off + i, none⟩ = some (I (f i))

def natI (l : List Nat) : List Int := l.map (fun x : Nat => Int.ofNat x)

/-- Whom the first i turns of a round have met. -/
def MetBy (liv dn : List Nat) (f : Nat) (up : Bool) (i : Nat) : Prop :=
  ∀ t, t < i → t < liv.length → ∃ x, liv[if up then (f + t) % liv.length else (f + liv.length - t) % liv.length]? = some x ∧ x ∈ dn
theorem MetBy.all {liv dn : List Nat} {f : Nat} {up : Bool} (hf : f < liv.length) (h : MetBy liv dn f up liv.length) : ∀ x, x ∈ liv → x ∈ dn := by
  intro x hx
  obtain ⟨t, ht, rfl⟩ := List.getElem_of_mem hx
  cases up
  · obtain ⟨i, hi, e⟩ := turn_down liv.length f t hf ht
    obtain ⟨y, h1, h2⟩ := h i hi hi
    simp only [Bool.false_eq_true, if_false, e] at h1
    rw [List.getElem?_eq_getElem ht] at h1
    simp only [Option.some.injEq] at h1
    rw [h1]; exact h2
  · obtain ⟨i, hi, e⟩ := turn_up liv.length f t hf ht
    obtain ⟨y, h1, h2⟩ := h i hi hi
    simp only [if_true, e] at h1
    rw [List.getElem?_eq_getElem ht] at h1
    simp only [Option.some.injEq] at h1
    rw [h1]; exact h2
theorem MetBy.more {liv dn : List Nat} {f : Nat} {up : Bool} {i : Nat} (h : MetBy liv dn f up i) (x : Nat) (hx : i < liv.length → liv[if up then (f + i) % liv.length else (f + liv.length - i) % liv.length]? = some x) : MetBy liv (x :: dn) f up (i + 1) := by
  intro t ht htl
  by_cases e : t = i
  · subst e
    exact ⟨x, hx htl, by simp⟩
  · obtain ⟨y, h1, h2⟩ := h t (by omega) htl
    exact ⟨y, h1, by simp [h2]⟩
theorem MetBy.same {liv dn : List Nat} {f : Nat} {up : Bool} {i : Nat} (h : MetBy liv dn f up i) (hi : liv.length ≤ i) : MetBy liv dn f up (i + 1) := by
  intro t ht htl
  exact h t (by omega) htl

theorem KSt.confAt {w : World} {B hb : Nat} {c : Conf} {S : Gh} {P : PLay} (h : KSt w B hb c S P) : w.cell? ⟨hb, 1, none⟩ = some (I c.kind) ∧ w.cell? ⟨hb, 2, none⟩ = some (I c.depth) ∧ w.cell? ⟨hb, 3, none⟩ = some (I c.start) ∧ w.cell? ⟨hb, 4, none⟩ = some (I c.slots) ∧ w.cell? ⟨hb, 5, none⟩ = some (I c.width) ∧ w.cell? ⟨hb, 6, none⟩ = some (I c.spin) ∧ w.cell? ⟨hb, 7, none⟩ = some (I c.drain) ∧ w.cell? ⟨hb, 8, none⟩ = some (I c.procs) := by
  obtain ⟨ov, wv, a, b, _⟩ := h.rep.blk
  have e := h.rel.rel.cP
  have f := (nb_facts a).1
  rw [← e]
  exact ⟨by rw [f 1]; rfl, by rw [f 2]; rfl, by rw [f 3]; rfl, by rw [f 4]; rfl, by rw [f 5]; rfl, by rw [f 6]; rfl, by rw [f 7]; rfl, by rw [f 8]; rfl⟩

end Go.Proofs.Ytjnmpejcegmkhaa

namespace Go.Proofs.Ytjnmpejcegmkhaa
open Go.RowKit

set_option maxHeartbeats 16000000 in
set_option maxRecDepth 100000 in
theorem kcsettle_c {w : World} {B hb : Nat} {c : Conf} {S : Gh} {P : PLay} (h : KSt w B hb c S P) (pk : ZOk c S.L) (pv : Value) (m : Nat) (pf : Nat → Int) (hpk : PicksAt w B pv m pf) :
    Calls Try.prog 29 #[.pointer (some ⟨hb, 0, none⟩), pv] w fun e w' => e = .returned (.bool true) ∧ (∃ S' P', KSt w' B hb c S' P' ∧ ZOk c S'.L ∧ S'.L.procs.length = S.L.procs.length ∧ ∀ i, (hi : i < S'.L.procs.length) → doneQ (toPP (S'.L.procs[i]).2)) ∧ Below B w w' := by
  obtain ⟨ap, cp, rfl, p1, p2, HP⟩ := hpk.form
  have HSR : Hid (∀ W, Below w.heap.size w W → CetR W B hb c S.L.procs.length (livTo S.L.procs S.L.procs.length) 0) := fun W hw => CetSt.start (h.below hw) pk
  have HAT : Hid (∀ W, Below w.heap.size w W → ∀ p, (hp : p < S.L.procs.length) → Calls Try.prog 44 #[.pointer (some ⟨hb, 0, none⟩), I p] W fun e w' => e = .returned (.agg #[I (S.L.procs[p]).2.phase, I (S.L.procs[p]).2.node, I (S.L.procs[p]).2.val]) ∧ Below W.heap.size W w') := fun W hw p hp => h.at hw p hp
  obtain ⟨ao9, cap9, c9, q1, q2, q3⟩ := h.opsAt
  have l0 := cell_lt c9
  have HBW : Hid (B ≤ w.heap.size) := h.hB
  have HMY : Hid (mayC c = true) := h.rel.rel.may
  have HPP : Hid _ := HP
  unfold maxLen at p2 q3
  clear h pk hpk HP
  generalize S.L.procs = ps at *
  obtain ⟨i0, hi, hz0, hz1, hz2⟩ := info_parts Try.info3
  go_enter Try.func29, Try.ntmps29
  go_wp2_with fail
  go_loopw [5, 6, 7] (fun xx pp _ wr => ∃ q : Nat, q ≤ ps.length ∧ pp = .int .i64 q ∧ wr.ownsRow w.heap.size 3 1 xx (livTo ps q).length ((natI (livTo ps q)).map I) ∧ Below w.heap.size w wr) (fun _ pp _ _ => ps.length - (intOf pp).toNat)
  case atStart => exact ⟨0, Nat.zero_le _, rfl, World.ownsRow_nil _ _ _ _, Below.refl _ _⟩
  case round =>
    obtain ⟨q, hq, rfl, hown, hbr⟩ := hrel
    have d9 := (hbr.cell (p := ⟨hb, 9, none⟩) l0).trans c9
    have ld := cell_lt d9
    by_cases hlt : q < ps.length
    · have ha := HAT.out _ hbr q hlt
      have HLV : Hid (livTo ps (q + 1) = livTo ps q ++ if (ps[q]).2.phase = 20 then [] else [q]) := by show _ = _; simp [livTo, hlt]
      have hll := livTo_len ps q
      generalize (ps[q]).2.phase = ph at *
      generalize (ps[q]).2.node = nd at *
      generalize (ps[q]).2.val = vl at *
      replace ha : Hid _ := ha
      have bq : decide ((q : Int) < (ps.length : Int)) = true := decide_eq_true (by omega)
      clear HPP
      go_wp2_with fail
      refine Calls.mono ha.out ?_
      rintro e w1 ⟨rfl, hb1⟩
      have hb2 : Below w.heap.size w w1 := hbr.trans (hb1.mono hbr.size)
      have hown1 := ownsRow_below hown hb1 (Nat.le_refl _)
      have hsz := hb2.size
      have hb3 : Below w.heap.size w (w1.alloc (.cells #[I ph, I nd, I vl] 84)) := hb2.alloc hsz _
      clear hb1 hown ha
      by_cases e20 : ph = 20
      · subst e20
        have HL2 : Hid (livTo ps (q + 1) = livTo ps q) := by show _ = _; rw [HLV.out]; simp
        clear HLV
        go_wp2_with fail
        go_roundw
        case rel => exact ⟨q + 1, by omega, by go_num, by rw [HL2.out]; exact hown1.alloc _, hb3⟩
        case measure => simp [intOf]; omega
      · have b20 : (ph != 20) = true := by rw [bne_iff_ne]; exact e20
        have HL2 : Hid (livTo ps (q + 1) = livTo ps q ++ [q]) := by show _ = _; rw [HLV.out, if_neg e20]
        clear HLV e20
        go_wp2_with (at_builtin; refine wpList_append_own _ rfl _ _ 27 rfl w.heap.size 3 i0 (.int .i64 0) 1 8 Try.underlying27 hi hz0 hz1 hz2 rfl (by decide) _ _ _ rfl ((hown1.alloc _).alloc _) ⟨w1.heap.size + 1, 0, none⟩ 1 1 [.int .i64 q] rfl rfl ?c1 ?c2 ?c3 ?c4 ?c5 ?_)
        case c1 => exact cells_new_at (w1.alloc (.cells #[I ph, I nd, I vl] 84)) [I q] 3 (w1.heap.size + 1) (by simp)
        case c2 => intro u hu; simp at hu; subst hu; rfl
        case c3 => unfold maxLen; omega
        case c4 => omega
        case c5 => simp; omega
        · intro x' w3 hown' hgrow _
          have hb4 : Below w.heap.size w w3 := (hb3.alloc (by simp; omega) _).grown hgrow (by simp; omega) (by
            intro j hj
            exact (hown1.lt j hj).1)
          clear hgrow hown1
          go_wp2_with fail
          go_roundw
          case rel => exact ⟨q + 1, by omega, by go_num, by rw [HL2.out]; simpa [natI] using hown', hb4⟩
          case measure => simp [intOf]; omega
    · have eq : q = ps.length := by omega
      subst eq
      have HS0 := HSR.out _ hbr
      have HLT : Hid (∀ x, x ∈ livTo ps ps.length → x < ps.length) := fun x hx => (livTo_lt ps ps.length x hx).2
      have hlv := livTo_len ps ps.length
      have bq : decide ((ps.length : Int) < (ps.length : Int)) = false := decide_eq_false (by omega)
      obtain ⟨al, cl, el, r1, r2, r3, HWt⟩ := row_cells hown
      subst el
      have HOW : Hid _ := hown
      have HS1 : Hid (CetR wr B hb c ps.length (livTo ps ps.length) 0) := HS0
      have HBR : Hid _ := hbr
      have HKC : Hid (∀ W, Calls Try.prog 53 #[.agg #[I c.kind, I c.depth, I c.start, I c.slots, I c.width, I c.spin, I c.drain, I c.procs]] W fun e w' => e = .returned (I (calmR c)) ∧ Below W.heap.size W w') := fun W => kcalm_c c HMY.out W
      have hR : 0 ≤ calmR c ∧ calmR c ≤ 1000 := by
        have hm := HMY.out
        have hc : 0 ≤ c.depth ∧ c.depth ≤ 4 ∧ 0 ≤ c.spin ∧ c.spin ≤ 8 ∧ 0 ≤ c.drain ∧ c.drain ≤ 16 ∧ 1 ≤ c.procs ∧ c.procs ≤ 16 := by simp [mayC] at hm; omega
        have b1 : (c.procs + 1) * (c.drain + 8) ≤ 17 * 24 := Int.mul_le_mul (by omega) (by omega) (by omega) (by omega)
        have b2 : 0 ≤ (c.procs + 1) * (c.drain + 8) := Int.mul_nonneg (by omega) (by omega)
        have b3 : (c.depth + 1) * (c.spin + 12) ≤ 5 * 20 := Int.mul_le_mul (by omega) (by omega) (by omega) (by omega)
        have b4 : 0 ≤ (c.depth + 1) * (c.spin + 12) := Int.mul_nonneg (by omega) (by omega)
        unfold calmR
        omega
      unfold maxLen at r2
      clear HSR HAT hown HS0 hbr HWt hi hz0 hz1 hz2 c9
      generalize livTo ps ps.length = liv at *
      have hnp : ps.length ≤ 256 := q2
      generalize hnn : ps.length = n at *
      have HNN : Hid (n = ps.length) := hnn.symm
      clear hnn
      generalize hRR : calmR c = R at *
      replace hRR : Hid _ := hRR
      go_wp2_with fail
      generalize wr = w1 at *
      go_loopw [8, 9, 10, 11, 12, 13, 14] (fun kk _ _ _ _ _ _ wk => ∃ k : Nat, (k : Int) ≤ R ∧ kk = .int .i64 k ∧ Hid (CetR wk B hb c n liv k) ∧ Hid (ChgT B KS w1 wk)) (fun kk _ _ _ _ _ _ _ => (R - intOf kk).toNat)
      case atStart => exact ⟨0, by omega, rfl, HS1.out, ChgT.refl _ _ _⟩
      case round =>
        obtain ⟨k, hk, rfl, hsr, hch⟩ := hrel
        obtain ⟨S1, P1, hk1, _⟩ := hsr.out
        obtain ⟨g1, g2, g3, g4, g5, g6, g7, g8⟩ := hk1.confAt
        have lg := cell_lt g1
        clear hk1
        go_wp2_with fail
        refine Calls.mono (HKC.out _) ?_
        rintro e w2 ⟨rfl, hb2⟩
        have hsr2 : Hid (CetR w2 B hb c n liv k) := CetR.below hsr.out hb2
        have hch2 : Hid (ChgT B KS w1 w2) := hch.out.trans (ChgT.of_below hb2)
        have HFIN : Hid (Below B w w2) := (HBR.out.mono HBW.out).trans (hch2.out.below (Nat.le_trans HBW.out HBR.out.size))
        clear g1 g2 g3 g4 g5 g6 g7 g8 lg hb2 hsr hch
        by_cases hkR : (k : Int) < R
        · have bk : decide ((k : Int) < R) = true := decide_eq_true hkR
          by_cases hl0 : liv.length = 0
          · have bl : decide ((0 : Int) < (liv.length : Int)) = false := decide_eq_false (by omega)
            have bl2 : decide (0 < liv.length) = false := decide_eq_false (by omega)
            have eliv : liv = [] := List.eq_nil_of_length_eq_zero hl0
            have HE : Hid _ := eliv
            clear eliv hl0
            go_wp2_with fail
            go_ret
            have hz := hsr2.out
            rw [HE.out] at hz
            obtain ⟨S9, P9, z1, z2, z3, z4⟩ := CetR.none hz
            exact ⟨rfl, ⟨S9, P9, z1, z2, z3.trans HNN.out, z4⟩, HFIN.out⟩
          · have bl : decide ((0 : Int) < (liv.length : Int)) = true := decide_eq_true (by omega)
            have bl2 : decide (0 < liv.length) = true := decide_eq_true (by omega)
            have bl3 : 0 < liv.length := by omega
            obtain ⟨l0, hl0n, h0, hst⟩ := CetR.round hsr2.out
            have H0 : Hid _ := h0
            have HST : Hid (CetSt w2 B hb c n liv l0 []) := hst
            have hpick : Hid (∀ x : Int, -9223372036854775808 ≤ x → ∀ W, Calls Try.prog 16 #[I x, I liv.length] W fun e w' => e = .returned (I (pickV x liv.length)) ∧ w' = W) := fun x hx W => pick_f x hx liv.length (by omega) (by omega) W
            have hp40 : Hid (∀ x : Int, -9223372036854775808 ≤ x → ∀ W, Calls Try.prog 16 #[I x, .int .i64 1099511627776] W fun e w' => e = .returned (I (pickV x 1099511627776)) ∧ w' = W) := fun x hx W => pick_f x hx 1099511627776 (by omega) (by omega) W
            have hp5 : Hid (∀ x : Int, -9223372036854775808 ≤ x → ∀ W, Calls Try.prog 16 #[I x, .int .i64 5] W fun e w' => e = .returned (I (pickV x 5)) ∧ w' = W) := fun x hx W => pick_f x hx 5 (by omega) (by omega) W
            clear hst h0 hsr2
            go_upto_if 50 with fail
            go_cut [9] (fun s9 wx => ∃ xv : Int, s9 = I xv ∧ -9223372036854775808 ≤ xv ∧ wx = w2)
            case first =>
              by_cases hm0 : m = 0
              · have bm : decide ((0 : Int) < (m : Int)) = false := decide_eq_false (by omega)
                go_wp2_with fail
                go_meet
                exact ⟨0, rfl, by omega, rfl⟩
              · have bm : decide ((0 : Int) < (m : Int)) = true := decide_eq_true (by omega)
                have hkm : k % m < m := Nat.mod_lt _ (by omega)
                obtain ⟨fx, b, off, rfl, lb, lw, cb⟩ := HPP.out (k % m) hkm
                have cb2 : w2.cell? ⟨b, off + k % m, none⟩ = some (I (pf (k % m))) := (HFIN.out.cell (p := ⟨b, off + k % m, none⟩) lb).trans cb
                generalize pf (k % m) = xv at *
                have bm0 : ((m : Int) == 0) = false := by rw [beq_eq_false_iff_ne]; omega
                have hm1 : 0 ≤ (k : Int) % (m : Int) := Int.emod_nonneg _ (by omega)
                have hm2 : (k : Int) % (m : Int) < (m : Int) := Int.emod_lt_of_pos _ (by omega)
                have bm2 : decide (0 < m) = true := decide_eq_true (by omega)
                go_wp2_with fail
                go_meet
                exact ⟨xv, rfl, fx, rfl⟩
            case rest =>
              obtain ⟨xv, rfl, hxv, rfl⟩ := hcut
              have hpi := hpick.out xv hxv
              have hpL := pickV_lt xv liv.length (by omega)
              have hp4 := hp40.out xv hxv
              have hp55 := hp5.out xv hxv
              generalize pickV xv liv.length = f at *
              generalize pickV xv 1099511627776 = r40 at *
              generalize pickV xv 5 = r5 at *
              replace hpi : Hid _ := hpi
              replace hp4 : Hid _ := hp4
              replace hp55 : Hid _ := hp55
              clear hpick hp40 hp5 HPP HKC HS1
              go_wp2_with fail
              refine Calls.mono (hpi.out _) ?_
              rintro e w3 ⟨rfl, rfl⟩
              go_wp2_with fail
              go_loopw [11, 12, 13, 14] (fun ii _ _ _ wq => ∃ i : Nat, i ≤ liv.length + 1 ∧ ii = .int .i64 i ∧ ∃ dn, Hid (CetSt wq B hb c n liv l0 dn) ∧ Hid (MetBy liv dn f (decide (r40 % 3 ≠ 1)) i) ∧ Hid (ChgT B KS w1 wq)) (fun ii _ _ _ _ => liv.length + 1 - (intOf ii).toNat)
              case atStart => exact ⟨0, Nat.zero_le _, rfl, [], HST.out, fun t ht => absurd ht (Nat.not_lt_zero _), hch2.out⟩
              case round =>
                obtain ⟨i, hi, rfl, dn, hst, hmet, hch⟩ := hrel
                by_cases hil : i ≤ liv.length
                · have bi : decide ((i : Int) ≤ (liv.length : Int)) = true := decide_eq_true (by omega)
                  have hcm := ((hch.out.row HOW.out (by decide)))
                  obtain ⟨al', cl', el', _, _, _, HC⟩ := row_cells hcm
                  simp only [Value.slice.injEq, true_and] at el'
                  obtain ⟨rfl, rfl⟩ := el'
                  have hup : (f + i) % liv.length < liv.length := Nat.mod_lt _ (by omega)
                  have hdn : (f + liv.length - i) % liv.length < liv.length := Nat.mod_lt _ (by omega)
                  have rd : ∀ t, (ht : t < liv.length) → ∃ g, al = some ⟨g, 0, none⟩ ∧ wr.cell? ⟨g, t, none⟩ = some (I ((liv[t] : Nat) : Int)) ∧ liv[t] < n := by
                    intro t ht
                    obtain ⟨g, e, _, cg⟩ := HC t (by simpa [natI] using ht)
                    refine ⟨g, e, ?_, HLT.out _ (List.getElem_mem _)⟩
                    rw [cg]
                    simp [natI]
                  obtain ⟨g, rfl, cu, nu⟩ := rd _ hup
                  obtain ⟨g', eg, cd, nd⟩ := rd _ hdn
                  simp only [Option.some.injEq, Addr.mk.injEq, and_true] at eg
                  subst eg
                  have lgu := cell_lt cu
                  have HU : Hid (liv[(f + i) % liv.length]? = some liv[(f + i) % liv.length]) := List.getElem?_eq_getElem hup
                  have HD : Hid (liv[(f + liv.length - i) % liv.length]? = some liv[(f + liv.length - i) % liv.length]) := List.getElem?_eq_getElem hdn
                  generalize liv[(f + i) % liv.length] = xu at *
                  generalize liv[(f + liv.length - i) % liv.length] = xd at *
                  clear rd HC hcm
                  have m1 : 0 ≤ ((f : Int) + (i : Int)) % (liv.length : Int) := Int.emod_nonneg _ (by omega)
                  have m2 : ((f : Int) + (i : Int)) % (liv.length : Int) < (liv.length : Int) := Int.emod_lt_of_pos _ (by omega)
                  have bl0 : ((liv.length : Int) == 0) = false := by rw [beq_eq_false_iff_ne]; omega
                  go_wp2_with fail
                  refine Calls.mono (hp4.out _) ?_
                  rintro e w5 ⟨rfl, rfl⟩
                  have m3 : 0 ≤ ((f : Int) + (liv.length : Int) - (i : Int)) % (liv.length : Int) := Int.emod_nonneg _ (by omega)
                  have m4 : ((f : Int) + (liv.length : Int) - (i : Int)) % (liv.length : Int) < (liv.length : Int) := Int.emod_lt_of_pos _ (by omega)
                  go_upto_if 80 with fail
                  go_cut [12] (fun s12 wx => ∃ x : Nat, s12 = I x ∧ x < n ∧ Hid (liv[if decide (r40 % 3 ≠ 1) then (f + i) % liv.length else (f + liv.length - i) % liv.length]? = some x) ∧ wx = w5)
                  case first =>
                    by_cases e3 : r40 % 3 = 1
                    · have b3 : ((r40 : Int) % 3 == 1) = true := by rw [beq_iff_eq]; omega
                      go_wp2_with fail
                      go_meet
                      exact ⟨xd, rfl, nd, by show _ = _; simp [e3]; exact HD.out, rfl⟩
                    · have b3 : ((r40 : Int) % 3 == 1) = false := by rw [beq_eq_false_iff_ne]; omega
                      go_wp2_with fail
                      go_meet
                      exact ⟨xu, rfl, nu, by show _ = _; simp [e3]; exact HU.out, rfl⟩
                  case rest =>
                    clear cu nu HU cd nd HD m1 m2 m3 m4 lgu hp4 hup hdn
                    obtain ⟨x, rfl, hxn, hxl, rfl⟩ := hcut
                    obtain ⟨ph, nd, vl, hat, hsk, hstp⟩ := CetSt.at hst.out x hxn
                    have hat0 := hat _ (Below.refl _ _)
                    replace hat0 : Hid _ := hat0
                    replace hsk : Hid _ := hsk
                    replace hstp : Hid _ := hstp
                    clear hat
                    go_wp2_with fail
                    refine Calls.mono hat0.out ?_
                    rintro e w6 ⟨rfl, hb6⟩
                    have hb7 : Below wc.heap.size wc (w6.alloc (.cells #[I ph, I nd, I vl] 84)) := hb6.alloc hb6.size _
                    clear hat0 hb6
                    by_cases e20 : ph = 20
                    · have hs9 : Hid (CetSt (w6.alloc (.cells #[I ph, I nd, I vl] 84)) B hb c n liv l0 (x :: dn)) := CetSt.below (hsk.out e20) hb7
                      have hc9 : Hid (ChgT B KS w1 (w6.alloc (.cells #[I ph, I nd, I vl] 84))) := hch.out.trans (ChgT.of_below hb7)
                      subst e20
                      go_wp2_with fail
                      go_roundw
                      case rel => exact ⟨i + 1, by omega, by go_num, x :: dn, hs9.out, MetBy.more hmet.out x (fun _ => hxl.out), hc9.out⟩
                      case measure => simp [intOf]; omega
                    · have b20 : (ph == 20) = false := by rw [beq_eq_false_iff_ne]; exact e20
                      have hs9 : Hid (CetSt (w6.alloc (.cells #[I ph, I nd, I vl] 84)) B hb c n liv l0 dn) := CetSt.below hst.out hb7
                      have hc9 : Hid (ChgT B KS w1 (w6.alloc (.cells #[I ph, I nd, I vl] 84))) := hch.out.trans (ChgT.of_below hb7)
                      have hcl : Hid (∀ draw : Int, Calls Try.prog 43 #[.pointer (some ⟨hb, 0, none⟩), I x, I draw] (w6.alloc (.cells #[I ph, I nd, I vl] 84)) fun e w' => e = .returned (.bool true) ∧ CetSt w' B hb c n liv l0 (x :: dn) ∧ ChgT B KS (w6.alloc (.cells #[I ph, I nd, I vl] 84)) w') := fun draw => hstp.out e20 _ hb7 draw
                      clear hsk hstp e20
                      by_cases ei : i = liv.length
                      · have be : ((i : Int) == (liv.length : Int)) = true := by rw [beq_iff_eq]; omega
                        have HEI : Hid (i = liv.length) := ei
                        clear ei
                        go_wp2_with fail
                        refine Calls.mono (hp55.out _) ?_
                        rintro e w7 ⟨rfl, rfl⟩
                        by_cases e5 : r5 = 2
                        · have b5 : ((r5 : Int) != 2) = false := by rw [bne_eq_false_iff_eq]; omega
                          go_wp2_with fail
                          refine Calls.mono (hcl.out _) ?_
                          rintro e w8 ⟨rfl, hs8, hc8⟩
                          have HS8 : Hid (CetSt w8 B hb c n liv l0 (x :: dn)) := hs8
                          have HC8 : Hid (ChgT B KS w1 w8) := hc9.out.trans hc8
                          clear hcl hs8 hc8 hs9 hc9
                          go_wp2_with fail
                          go_roundw
                          case rel => exact ⟨i + 1, by omega, by go_num, x :: dn, HS8.out, MetBy.more hmet.out x (fun _ => hxl.out), HC8.out⟩
                          case measure => simp [intOf]; omega
                        · have b5 : ((r5 : Int) != 2) = true := by rw [bne_iff_ne]; omega
                          have HMS : Hid (MetBy liv dn f (decide (r40 % 3 ≠ 1)) (i + 1)) := MetBy.same hmet.out (by have := HEI.out; omega)
                          go_wp2_with fail
                          go_roundw
                          case rel => exact ⟨i + 1, by omega, by go_num, dn, hs9.out, HMS.out, hc9.out⟩
                          case measure => simp [intOf]; omega
                      · have be : ((i : Int) == (liv.length : Int)) = false := by rw [beq_eq_false_iff_ne]; omega
                        go_wp2_with fail
                        refine Calls.mono (hcl.out _) ?_
                        rintro e w8 ⟨rfl, hs8, hc8⟩
                        have HS8 : Hid (CetSt w8 B hb c n liv l0 (x :: dn)) := hs8
                        have HC8 : Hid (ChgT B KS w1 w8) := hc9.out.trans hc8
                        clear hcl hs8 hc8 hs9 hc9
                        go_wp2_with fail
                        go_roundw
                        case rel => exact ⟨i + 1, by omega, by go_num, x :: dn, HS8.out, MetBy.more hmet.out x (fun _ => hxl.out), HC8.out⟩
                        case measure => simp [intOf]; omega
                · have bi : decide ((i : Int) ≤ (liv.length : Int)) = false := decide_eq_false (by omega)
                  have hdone : Hid (CetR wr B hb c n liv (k + 1)) := CetSt.done hst.out H0.out (MetBy.all hpL (fun t ht htl => hmet.out t (by omega) htl))
                  clear hst hmet
                  go_wp2_with fail
                  go_roundw
                  case rel => exact ⟨k + 1, by push_cast; omega, by go_num, hdone.out, hch.out⟩
                  case measure => simp [intOf]; omega
        · have bk : decide ((k : Int) < R) = false := decide_eq_false hkR
          go_wp2_with fail
          go_ret
          obtain ⟨S9, P9, z1, z2, z3, z4⟩ := CetR.all hsr2.out (by rw [hRR.out]; omega)
          exact ⟨rfl, ⟨S9, P9, z1, z2, z3.trans HNN.out, z4⟩, HFIN.out⟩

end Go.Proofs.Ytjnmpejcegmkhaa

namespace Go.Proofs.Ytjnmpejcegmkhaa
open Go.RowKit

set_option maxHeartbeats 2000000 in
theorem kended_c {w : World} {B hb : Nat} {c : Conf} {S : Gh} {P : PLay} (h : KSt w B hb c S P) {W : World} (hw : Below w.heap.size w W) (p : Nat) (hp : p < S.L.procs.length) :
    Calls Try.prog 54 #[.pointer (some ⟨hb, 0, none⟩), I p] W fun e w' => e = .returned (.bool (decide ((S.L.procs[p]).2.phase = 19 ∨ (S.L.procs[p]).2.phase = 20))) ∧ Below W.heap.size W w' := by
  have ha := h.at hw p hp
  generalize (S.L.procs[p]).2.phase = ph at *
  generalize (S.L.procs[p]).2.node = nd at *
  generalize (S.L.procs[p]).2.val = vl at *
  replace ha : Hid _ := ha
  clear h hw hp
  go_enter Try.func54, Try.ntmps54
  go_wp2_with fail
  refine Calls.mono ha.out ?_
  rintro e w1 ⟨rfl, hb1⟩
  have hb2 : Below W.heap.size W (w1.alloc (.cells #[I ph, I nd, I vl] 84)) := hb1.alloc hb1.size _
  clear ha
  by_cases e1 : ph = 19
  · subst e1
    go_wp2_with fail
    go_ret
    exact ⟨by simp, hb2⟩
  · have b1 : (ph == 19) = false := by rw [beq_eq_false_iff_ne]; exact e1
    by_cases e2 : ph = 20
    · subst e2
      go_wp2_with fail
      go_ret
      exact ⟨by simp, hb2⟩
    · have b2 : (ph == 20) = false := by rw [beq_eq_false_iff_ne]; exact e2
      go_wp2_with fail
      go_ret
      exact ⟨by simp [e1, e2], hb2⟩

end Go.Proofs.Ytjnmpejcegmkhaa

namespace Go.Proofs.Ytjnmpejcegmkhaa
open Go.RowKit

theorem num_lt {c : Conf} {L : Lay} {P : PLay} (h : CRel c L P) (hc : c.kind = 0) (ht : TotOk L) {x : Int} (hx : Iss L x) : 0 ≤ x ∧ x < sumP (fun p => sgn p.kind) L.procs := by
  have hN := h.rel.lenle
  obtain ⟨u, t, u1, hu, hf, rfl, htp⟩ := hx
  have hsh := all_share h hc u u1 hu (by rw [hf]; decide)
  have tk0 : 0 ≤ tkS L u := by
    have := sumP_mono (fun _ => 0) (fun p => if undB u p.node.toNat = true then tokP L.procs p else 0) L.procs fun i hi => by
      have tn := tok_nonneg h hc i hi
      show (0 : Int) ≤ if undB u (L.procs[i]).2.node.toNat = true then tokP L.procs (L.procs[i]).2 else 0
      split
      · exact tn.1
      · exact Int.le_refl _
    rw [sumP_zero (fun _ => 0) L.procs fun _ _ => rfl] at this
    exact this
  have hbal : balH (L.hist u) = putsH (L.hist u) := by
    unfold balH
    rw [if_pos hf, h.ck.ci.nog hc u hu]
    simp
  have hsub := sub_leaf h u1 hu hf
  have hall : allS L 1 = sumP (fun p => sgn p.kind) L.procs := by
    unfold TotOk at ht
    unfold allS
    rw [sub_all h, ← ht]
    congr 1
    unfold tkS
    refine sumP_congr _ _ _ fun i hi => ?_
    by_cases h20 : (L.procs[i]).2.phase = 20
    · have : tokP L.procs (L.procs[i]).2 = 0 := by unfold tokP; rw [if_neg (by omega)]
      rw [this]
      simp
    · obtain ⟨w, x1, x2, x3, _⟩ := (h.rel.qs i hi).live h20
      have : undB 1 (L.procs[i]).2.node.toNat = true := und_one ⟨(L.procs[i]).2.node.toNat, by omega⟩ (by show 1 ≤ (L.procs[i]).2.node.toNat; omega)
      rw [if_pos this]
  rw [hall] at hsh
  unfold allS at hsh
  rw [hsub, hbal] at hsh
  have hl := log2_32 ⟨u, by omega⟩
  simp only at hl
  generalize sumP (fun p => sgn p.kind) L.procs = N at *
  generalize rank u = rk at *
  generalize putsH (L.hist u) = pu at *
  generalize tkS L u = tk at *
  generalize Nat.log2 u = d at *
  have : d = 0 ∨ d = 1 ∨ d = 2 ∨ d = 3 ∨ d = 4 := by omega
  rcases this with rfl | rfl | rfl | rfl | rfl <;> simp at hsh ⊢ <;> omega

end Go.Proofs.Ytjnmpejcegmkhaa

namespace Go.Proofs.Ytjnmpejcegmkhaa
open Go.RowKit

theorem KSt.opsAt2 {w : World} {B hb : Nat} {c : Conf} {S : Gh} {P : PLay} (h : KSt w B hb c S P) : ∃ ao cap, w.cell? ⟨hb, 9, none⟩ = some (.slice ao S.L.procs.length cap) ∧ S.L.procs.length ≤ cap ∧ S.L.procs.length ≤ 256 ∧ cap ≤ maxLen ∧ ∀ p, (hp : p < S.L.procs.length) → ∃ g, ao = some ⟨g, 0, none⟩ ∧ g < w.heap.size ∧ w.cell? ⟨g, p * 3, none⟩ = some (I (S.L.procs[p]).2.kind) := by
  obtain ⟨ov, wv, a, b, _⟩ := h.rep.blk
  obtain ⟨ao, cap, e1, q1, q2, q3, hc⟩ := ownsRow_cells b
  have hl : S.ops.length = S.L.procs.length := h.rep.len.trans h.rel.plen
  refine ⟨ao, cap, ?_, by omega, h.rel.rel.np, q3, fun p hp => ?_⟩
  · rw [(nb_facts a).1 9, ← hl, ← e1]
    rfl
  · have hpo : p < S.ops.length := by omega
    have ek : (S.ops[p]).kind = (S.L.procs[p]).2.kind := by
      have e := h.of.op
      have : S.ops[p]? = (opsL S.L)[p]? := by rw [e]
      rw [List.getElem?_eq_getElem hpo] at this
      simp [opsL, toPPs, hp, ppOp, toPP] at this
      rw [this]
    obtain ⟨g, e, _, cg⟩ := hc (p * 3 + 0) (I (S.L.procs[p]).2.kind) (by
      show (S.ops.flatMap opCells)[p * 3 + 0]? = _
      rw [flat_at opCells 3 (fun _ => rfl) S.ops p hpo 0 (by omega), ← ek]
      rfl)
    exact ⟨g, e, cell_lt cg, cg⟩

end Go.Proofs.Ytjnmpejcegmkhaa

namespace Go.Proofs.Ytjnmpejcegmkhaa
open Go.RowKit

/-- How many Incs there are among the first k. -/
def incTo (ps : Prs) : Nat → Nat
  | 0 => 0
  | k + 1 => incTo ps k + (if h : k < ps.length then (if (ps[k]).2.kind = 0 then 1 else 0) else 0)
theorem incTo_le (ps : Prs) : ∀ k, incTo ps k ≤ k
  | 0 => Nat.le_refl _
  | k + 1 => by
    have := incTo_le ps k
    simp only [incTo]
    split
    · split <;> omega
    · omega
theorem incTo_sum (ps : Prs) (hk : ∀ i, (hi : i < ps.length) → (ps[i]).2.kind = 0 ∨ (ps[i]).2.kind = 3 ∨ (ps[i]).2.kind = 4) : ∀ k, k ≤ ps.length → ((incTo ps k : Nat) : Int) = sumP (fun p => sgn p.kind) (ps.take k)
  | 0, _ => by simp [incTo, sumP]
  | k + 1, h => by
    have hlt : k < ps.length := by omega
    have ih := incTo_sum ps hk k (by omega)
    have e : ps.take (k + 1) = ps.take k ++ [ps[k]] := by rw [List.take_add_one, List.getElem?_eq_getElem hlt]; rfl
    rw [e, sumP_one, ← ih]
    simp only [incTo, dif_pos hlt]
    rcases hk k hlt with a | a | a <;> simp [a, sgn]

abbrev overI (q : Pr) : Prop := q.kind = 0 ∧ (q.phase = 19 ∨ q.phase = 20)
/-- Which numbers the first k have. -/
def marksTo (ps : Prs) (n : Nat) : Nat → List Bool
  | 0 => List.replicate n false
  | k + 1 => if h : k < ps.length then (if overI (ps[k]).2 then (marksTo ps n k).set (ps[k]).2.val.toNat true else marksTo ps n k) else marksTo ps n k
theorem marksTo_len (ps : Prs) (n : Nat) : ∀ k, (marksTo ps n k).length = n
  | 0 => by simp [marksTo]
  | k + 1 => by
    have := marksTo_len ps n k
    simp only [marksTo]
    split
    · split
      · simpa using this
      · exact this
    · exact this
theorem marksTo_by (ps : Prs) (n x : Nat) : ∀ k, (marksTo ps n k)[x]? = some true → ∃ i, i < k ∧ ∃ hi : i < ps.length, overI (ps[i]).2 ∧ (ps[i]).2.val.toNat = x
  | 0, h => by
    simp only [marksTo, List.getElem?_replicate] at h
    split at h <;> simp at h
  | k + 1, h => by
    simp only [marksTo] at h
    split at h
    · rename_i hk
      split at h
      · rename_i ho
        by_cases e : (ps[k]).2.val.toNat = x
        · exact ⟨k, by omega, hk, ho, e⟩
        · rw [List.getElem?_set_ne e] at h
          obtain ⟨i, a, b⟩ := marksTo_by ps n x k h
          exact ⟨i, by omega, b⟩
      · obtain ⟨i, a, b⟩ := marksTo_by ps n x k h
        exact ⟨i, by omega, b⟩
    · obtain ⟨i, a, b⟩ := marksTo_by ps n x k h
      exact ⟨i, by omega, b⟩

/-- Who has ended has a number that is not too great, and that nobody before it has. -/
theorem num_free {c : Conf} {L : Lay} {P : PLay} (h : CRel c L P) (z : ZOk c L) {k : Nat} (hk : k < L.procs.length) (ho : overI (L.procs[k]).2) :
    0 ≤ (L.procs[k]).2.val ∧ (L.procs[k]).2.val < (incTo L.procs L.procs.length : Nat) ∧ (marksTo L.procs (incTo L.procs L.procs.length) k)[(L.procs[k]).2.val.toNat]? = some false := by
  have hi := z.y.num.iss k hk ho
  obtain ⟨a, b⟩ := num_lt h z.ck z.x.tot hi
  have hks : ∀ i, (hi : i < L.procs.length) → (L.procs[i]).2.kind = 0 ∨ (L.procs[i]).2.kind = 3 ∨ (L.procs[i]).2.kind = 4 := by
    intro i hi
    have := (h.rel.qs i hi).kind
    have := z.ck
    omega
  have hs := incTo_sum L.procs hks L.procs.length (Nat.le_refl _)
  rw [List.take_length] at hs
  refine ⟨a, by omega, ?_⟩
  have hl := marksTo_len L.procs (incTo L.procs L.procs.length) k
  have hlt : (L.procs[k]).2.val.toNat < (marksTo L.procs (incTo L.procs L.procs.length) k).length := by omega
  rw [List.getElem?_eq_getElem hlt]
  cases hb : (marksTo L.procs (incTo L.procs L.procs.length) k)[(L.procs[k]).2.val.toNat] with
  | false => rfl
  | true =>
    obtain ⟨i, i1, i2, i3, i4⟩ := marksTo_by L.procs (incTo L.procs L.procs.length) (L.procs[k]).2.val.toNat k (by rw [List.getElem?_eq_getElem hlt, hb])
    have := z.y.num.diff i k i2 hk (by omega) i3 ho
    have hn := (num_lt h z.ck z.x.tot (z.y.num.iss i i2 i3)).1
    exfalso
    omega

end Go.Proofs.Ytjnmpejcegmkhaa

namespace Go.Proofs.Ytjnmpejcegmkhaa
open Go.RowKit

theorem made_bools (n : Nat) : (madeCells #[Value.bool false] n).toList = (List.replicate n false).map Value.bool := by
  unfold madeCells
  apply List.ext_getElem?
  intro i
  by_cases h : i < n <;> simp [h, Nat.mod_one]

set_option maxHeartbeats 8000000 in
set_option maxRecDepth 100000 in
theorem knumbers_c {w : World} {B hb : Nat} {c : Conf} {S : Gh} {P : PLay} (h : KSt w B hb c S P) (z : ZOk c S.L) :
    Calls Try.prog 30 #[.pointer (some ⟨hb, 0, none⟩)] w fun e w' => e = .returned (.bool true) ∧ Below w.heap.size w w' := by
  have HAT : Hid (∀ W, Below w.heap.size w W → ∀ p, (hp : p < S.L.procs.length) → Calls Try.prog 44 #[.pointer (some ⟨hb, 0, none⟩), I p] W fun e w' => e = .returned (.agg #[I (S.L.procs[p]).2.phase, I (S.L.procs[p]).2.node, I (S.L.procs[p]).2.val]) ∧ Below W.heap.size W w') := fun W hw p hp => h.at hw p hp
  have HEN : Hid (∀ W, Below w.heap.size w W → ∀ p, (hp : p < S.L.procs.length) → Calls Try.prog 54 #[.pointer (some ⟨hb, 0, none⟩), I p] W fun e w' => e = .returned (.bool (decide ((S.L.procs[p]).2.phase = 19 ∨ (S.L.procs[p]).2.phase = 20))) ∧ Below W.heap.size W w') := fun W hw p hp => kended_c h hw p hp
  have HFR : Hid (∀ k, (hk : k < S.L.procs.length) → overI (S.L.procs[k]).2 → 0 ≤ (S.L.procs[k]).2.val ∧ (S.L.procs[k]).2.val < (incTo S.L.procs S.L.procs.length : Nat) ∧ (marksTo S.L.procs (incTo S.L.procs S.L.procs.length) k)[(S.L.procs[k]).2.val.toNat]? = some false) := fun k hk ho => num_free h.rel z hk ho
  obtain ⟨ao9, cap9, c9, q1, q2, q3, HC9⟩ := h.opsAt2
  have l0 := cell_lt c9
  have HOP : Hid _ := HC9
  unfold maxLen at q3
  clear h z HC9
  generalize S.L.procs = ps at *
  obtain ⟨i0, hi, hz0, hz1, hz2⟩ := info_parts Try.info4
  go_enter Try.func30, Try.ntmps30
  go_wp2_with fail
  go_loopw [3, 4] (fun nn pp wr => ∃ q : Nat, q ≤ ps.length ∧ pp = .int .i64 q ∧ nn = .int .i64 (incTo ps q : Nat) ∧ w = wr) (fun _ pp _ => ps.length - (intOf pp).toNat)
  case atStart => exact ⟨0, Nat.zero_le _, rfl, rfl, rfl⟩
  case round =>
    obtain ⟨q, hq, rfl, rfl, rfl⟩ := hrel
    have hil := incTo_le ps q
    by_cases hlt : q < ps.length
    · obtain ⟨g, rfl, lg, cg⟩ := HOP.out q hlt
      have HI : Hid (incTo ps (q + 1) = incTo ps q + if (ps[q]).2.kind = 0 then 1 else 0) := by show _ = _; simp [incTo, hlt]
      generalize (ps[q]).2.kind = kd at *
      have bq : decide ((q : Int) < (ps.length : Int)) = true := decide_eq_true (by omega)
      clear HAT HEN HFR hi hz0 hz1 hz2
      by_cases e0 : kd = 0
      · subst e0
        have HI2 : Hid (incTo ps (q + 1) = incTo ps q + 1) := by show _ = _; rw [HI.out]; rfl
        clear HI
        go_wp2_with fail
        go_roundw
        case rel => exact ⟨q + 1, by omega, by go_num, by rw [HI2.out]; go_num, trivial⟩
        case measure => simp [intOf]; omega
      · have b0 : (kd == 0) = false := by rw [beq_eq_false_iff_ne]; exact e0
        have HI2 : Hid (incTo ps (q + 1) = incTo ps q) := by show _ = _; rw [HI.out, if_neg e0]; rfl
        clear HI e0
        go_wp2_with fail
        go_roundw
        case rel => exact ⟨q + 1, by omega, by go_num, by rw [HI2.out], trivial⟩
        case measure => simp [intOf]; omega
    · have eq : q = ps.length := by omega
      subst eq
      have bq : decide ((ps.length : Int) < (ps.length : Int)) = false := decide_eq_false (by omega)
      have HM0 : Hid (marksTo ps (incTo ps ps.length) 0 = List.replicate (incTo ps ps.length) false) := rfl
      generalize hnn : incTo ps ps.length = n at *
      clear hnn
      go_wp2_with (at_make; refine wpList_make_full _ rfl _ _ 36 rfl w.heap.size 4 i0 (.bool false) 1 Try.underlying36 hi hz0 hz1 .i64 .i64 _ _ n rfl rfl rfl rfl (by rw [hz2]; omega) (by unfold maxLen; omega) (Nat.le_refl _) ?_)
      intro w1 hown hgrow
      have hb1 : Below w.heap.size w w1 := (Below.refl _ _).grown hgrow (Nat.le_refl _) (by intro j hj; cases hj)
      have HOW : Hid (w1.ownsRow w.heap.size 4 1 (.slice (some ⟨w.heap.size, 0, none⟩) n n) n ((marksTo ps n 0).map Value.bool)) := by
        show World.ownsRow _ _ _ _ _ _ _
        rw [HM0.out, ← made_bools]
        exact hown
      have HB1 : Hid _ := hb1
      clear hgrow hown hb1 HM0 hi hz0 hz1 hz2
      go_wp2_with fail
      go_loopw [6, 7, 8] (fun pp _ _ wr => ∃ q : Nat, q ≤ ps.length ∧ pp = .int .i64 q ∧ Hid (wr.ownsRow w.heap.size 4 1 (.slice (some ⟨w.heap.size, 0, none⟩) n n) n ((marksTo ps n q).map Value.bool)) ∧ Below w.heap.size w wr) (fun pp _ _ _ => ps.length - (intOf pp).toNat)
      case atStart => exact ⟨0, Nat.zero_le _, rfl, HOW.out, HB1.out⟩
      case round =>
        obtain ⟨q, hq, rfl, hown, hbr⟩ := hrel
        have d9 := (hbr.cell (p := ⟨hb, 9, none⟩) l0).trans c9
        have ld := cell_lt d9
        by_cases hlt : q < ps.length
        · have hen := HEN.out _ hbr q hlt
          have HA2 : Hid (∀ W, Below w.heap.size w W → Calls Try.prog 44 #[.pointer (some ⟨hb, 0, none⟩), I q] W fun e w' => e = .returned (.agg #[I (ps[q]).2.phase, I (ps[q]).2.node, I (ps[q]).2.val]) ∧ Below W.heap.size W w') := fun W hw => HAT.out W hw q hlt
          obtain ⟨g, rfl, lg, cg⟩ := HOP.out q hlt
          have bq : decide ((q : Int) < (ps.length : Int)) = true := decide_eq_true (by omega)
          by_cases ov : overI (ps[q]).2
          · have HM2 : Hid (marksTo ps n (q + 1) = (marksTo ps n q).set (ps[q]).2.val.toNat true) := by show _ = _; simp [marksTo, hlt, ov]
            obtain ⟨f1, f2, f3⟩ := HFR.out q hlt ov
            obtain ⟨k0, kph⟩ := ov
            rw [decide_eq_true kph] at hen
            rw [k0] at cg
            clear HAT HEN HFR HOP k0 kph
            generalize (ps[q]).2.phase = ph at *
            generalize (ps[q]).2.node = nd at *
            generalize (ps[q]).2.val = vl at *
            obtain ⟨m, rfl⟩ : ∃ m : Nat, vl = (m : Int) := ⟨vl.toNat, by omega⟩
            rw [Int.toNat_natCast] at f3
            have HM3 : Hid (marksTo ps n (q + 1) = (marksTo ps n q).set m true) := HM2.out
            have mlt : m < n := by omega
            replace hen : Hid _ := hen
            clear HM2 f1 f2
            go_wp2_with fail
            refine Calls.mono hen.out ?_
            rintro e w2 ⟨rfl, hb2⟩
            have hb3 : Below w.heap.size w w2 := hbr.trans (hb2.mono hbr.size)
            have hown2 := ownsRow_below hown.out hb2 (Nat.le_refl _)
            have e9 := (hb3.cell (p := ⟨hb, 9, none⟩) l0).trans c9
            have cg2 := (hb3.cell (p := ⟨g, q * 3, none⟩) lg).trans cg
            have le := cell_lt e9
            have lg2 := cell_lt cg2
            have HO2 : Hid _ := hown2
            clear hen hb2 hown hown2 hbr d9 ld
            go_wp2_with fail
            refine Calls.mono (HA2.out _ hb3) ?_
            rintro e w3 ⟨rfl, hb4⟩
            have hb5 : Below w.heap.size w w3 := hb3.trans (hb4.mono hb3.size)
            have hb6 : Below w.heap.size w (w3.alloc (.cells #[I ph, I nd, I (m : Int)] 84)) := hb5.alloc hb5.size _
            have hown3 := (ownsRow_below HO2.out hb4 (Nat.le_refl _)).alloc (.cells #[I ph, I nd, I (m : Int)] 84)
            obtain ⟨ao', cp', eo, _, _, _, HC⟩ := ownsRow_cells hown3
            have eo1 : some (⟨w.heap.size, 0, none⟩ : Addr) = ao' := by injection eo
            subst eo1
            obtain ⟨g', eg, _, cs⟩ := HC m (.bool false) (by rw [List.getElem?_map, f3]; rfl)
            have eg := Addr.mk.inj (Option.some.inj eg)
            have eg := eg.1
            have HS : Hid _ := hown3
            have HB6 : Hid _ := hb6
            obtain ⟨cur, hbk⟩ := ownsRow_block hown3 (g := w.heap.size) rfl
            have fz := (nb_facts hbk).2 m
            clear hbk
            clear HC hown3 hb4 hb5 HO2 HA2 hb6 f3 hb3 e9 cg2 le lg2
            subst eg
            have lcs := cell_lt cs
            go_wp2_with fail
            go_roundw
            case rel => exact ⟨q + 1, by omega, by go_num, by rw [HM3.out, List.map_set]; exact ownsRow_set HS.out m (.bool true), HB6.out.setCell (Nat.le_refl _) _⟩
            case measure => simp [intOf]; omega
          · have HM2 : Hid (marksTo ps n (q + 1) = marksTo ps n q) := by show _ = _; simp [marksTo, hlt, ov]
            have hno : (ps[q]).2.kind = 0 → ¬ ((ps[q]).2.phase = 19 ∨ (ps[q]).2.phase = 20) := fun a b => ov ⟨a, b⟩
            clear HAT HFR HOP ov HA2 HEN
            generalize (ps[q]).2.kind = kd at *
            generalize (ps[q]).2.phase = ph at *
            have HNO : Hid _ := hno
            generalize hod : decide (ph = 19 ∨ ph = 20) = od at *
            have HOD : Hid _ := hod
            replace hen : Hid _ := hen
            clear hno hod
            go_wp2_with fail
            refine Calls.mono hen.out ?_
            rintro e w2 ⟨rfl, hb2⟩
            have hb3 : Below w.heap.size w w2 := hbr.trans (hb2.mono hbr.size)
            have hown2 := ownsRow_below hown.out hb2 (Nat.le_refl _)
            have e9 := (hb3.cell (p := ⟨hb, 9, none⟩) l0).trans c9
            have cg2 := (hb3.cell (p := ⟨g, q * 3, none⟩) lg).trans cg
            have le := cell_lt e9
            have lg2 := cell_lt cg2
            have HO2 : Hid _ := hown2
            clear hen hb2 hown hown2 hbr d9 ld
            by_cases k0 : kd = 0
            · subst k0
              have ho : od = false := by rw [← HOD.out]; exact decide_eq_false (HNO.out rfl)
              subst ho
              go_wp2_with fail
              go_roundw
              case rel => exact ⟨q + 1, by omega, by go_num, by rw [HM2.out]; exact HO2.out, hb3⟩
              case measure => simp [intOf]; omega
            · have b0 : (kd != 0) = true := by rw [bne_iff_ne]; exact k0
              go_wp2_with fail
              go_roundw
              case rel => exact ⟨q + 1, by omega, by go_num, by rw [HM2.out]; exact HO2.out, hb3⟩
              case measure => simp [intOf]; omega
        · have eq : q = ps.length := by omega
          subst eq
          have bq : decide ((ps.length : Int) < (ps.length : Int)) = false := decide_eq_false (by omega)
          go_wp2_with fail
          go_ret
          exact ⟨rfl, hbr⟩

end Go.Proofs.Ytjnmpejcegmkhaa

namespace Go.Proofs.Ytjnmpejcegmkhaa
open Go.RowKit

theorem PRep.base2 {w : World} {B B' : Nat} {L : PLay} (h : PRep w B L) (hb : B' ≤ B) : PRep w B' L :=
  ⟨h.tree, Nat.le_trans hb h.treeB, h.len, ownsRow_mono h.prow hb, fun v hv => ownsRow_mono (h.items v hv) hb, h.ind⟩

set_option maxHeartbeats 4000000 in
theorem kbegin_no (c : Conf) (w : World) (h : mayC c = false) : Calls Try.prog 15 #[confV c] w fun e w' => e = .returned (.tuple #[.pointer none, .bool true]) ∧ Below w.heap.size w w' := by
  have h1 := fun W => pnew_no c W h
  have h2 := fun W => good_c c W
  rw [h] at h2
  unfold confV at h1 h2 ⊢
  clear h
  replace h1 : Hid _ := h1
  replace h2 : Hid _ := h2
  go_enter Try.func15, Try.ntmps15
  go_wp2_with fail
  refine Calls.mono (h1.out _) ?_
  rintro e w1 ⟨rfl, hb1⟩
  have nb1 : w1.heap[w.heap.size]? = some (.cells #[I c.kind, I c.depth, I c.start, I c.slots, I c.width, I c.spin, I c.drain, I c.procs] 23 (0, 0)) := (hb1.block _ (by simp)).trans (nb_alloc _ _ _)
  have hb2 : Below w.heap.size w w1 := ((Below.refl _ _).alloc (Nat.le_refl _) _).trans (hb1.mono (by simp))
  obtain ⟨f1, _⟩ := nb_facts nb1
  clear hb1 h1
  go_wp2_with fail
  refine Calls.mono (h2.out _) ?_
  rintro e w2 ⟨rfl, hb3⟩
  go_wp2
  go_ret2
  exact ⟨rfl, hb2.trans (hb3.mono hb2.size)⟩

set_option maxHeartbeats 4000000 in
theorem kbegin_yes (c : Conf) (w : World) (h : mayC c = true) : Calls Try.prog 15 #[confV c] w fun e w' => ∃ hb P, e = .returned (.tuple #[.pointer (some ⟨hb, 0, none⟩), .bool true]) ∧ KRep w' w.heap.size hb P [] [] ∧ PNew c P ∧ Below w.heap.size w w' := by
  have h1 := fun W => pnew_yes c W h
  have h2 := fun W => good_c c W
  rw [h] at h2
  unfold confV at h1 h2 ⊢
  clear h
  replace h1 : Hid _ := h1
  replace h2 : Hid _ := h2
  go_enter Try.func15, Try.ntmps15
  go_wp2_with fail
  refine Calls.mono (h1.out _) ?_
  rintro e w1 ⟨P, rfl, hpr, hpn, hb1⟩
  have nb1 : w1.heap[w.heap.size]? = some (.cells #[I c.kind, I c.depth, I c.start, I c.slots, I c.width, I c.spin, I c.drain, I c.procs] 23 (0, 0)) := (hb1.block _ (by simp)).trans (nb_alloc _ _ _)
  have hb2 : Below w.heap.size w w1 := ((Below.refl _ _).alloc (Nat.le_refl _) _).trans (hb1.mono (by simp))
  obtain ⟨f1, _⟩ := nb_facts nb1
  have HPR : Hid _ := hpr
  clear hb1 h1 hpr
  go_wp2_with fail
  refine Calls.mono (h2.out _) ?_
  rintro e w2 ⟨rfl, hb3⟩
  have nb2 := (hb3.block _ (Array.getElem?_eq_some_iff.1 nb1).1).trans nb1
  obtain ⟨g1, _⟩ := nb_facts nb2
  have hb4 := hb2.trans (hb3.mono hb2.size)
  have HP2 : Hid _ := HPR.out.below hb3
  clear f1 hb3 hb2 HPR
  go_wp2_with fail
  go_ret2
  have hcf := hpn.conf
  refine ⟨w2.heap.size, P, rfl, ⟨⟨.slice none 0 0, .slice none 0 0, ?_, World.ownsRow_nil _ _ _ _, World.ownsRow_nil _ _ _ _⟩, hb4.size, ?_, by rw [hpn.procs]; rfl, rfl⟩, hpn, hb4.alloc hb4.size _⟩
  · unfold handCells
    rw [hcf]
    exact nb_alloc _ _ _
  · exact (HP2.out.below ((Below.refl _ _).alloc (Nat.le_refl _) _)).base2 (by simp)

end Go.Proofs.Ytjnmpejcegmkhaa

namespace Go.Proofs.Ytjnmpejcegmkhaa
open Go.ChangeShapes Go.WideShapes Go.ChangeAt Go.RowKit Go.Joins

theorem ownK2 : ownKnob Try.prog.godebug = none := by kernel_rfl

theorem laidOut2 : laidOutB Try.prog = true := by kernel_rfl

set_option maxRecDepth 100000 in
theorem conf_open2 {H : Type} {enc : TypeId × Value → H} {W : World} {base : Nat} {held : Bool} {sp : Nat → Bool} {v : Value} {d : DataW H} {p : List MemPlace} {r : Reach} {b0 : Nat}
    (hv : Value.okWide Try.prog W r b0 23 v) (h : DataW.Trod enc Try.prog W base sp held 23 v d p) : ∃ c : Conf, v = confV c := by
  obtain ⟨cs, rfl, hsz⟩ := okWide_struct Try.underlying23 hv
  obtain ⟨fuel, hf⟩ := h
  obtain ⟨xs, n, h1, h2, hl, hlen, hf⟩ := DataW.trod_struct Try.underlying23 hf
  have hlen8 : xs.length = 8 := hlen
  have hcs8 : cs.toList.length = 8 := by
    have e8 : Try.prog.cellsOf 23 = 8 := by kernel_rfl
    rw [Array.length_toList, hsz, e8]
  have e1 : Try.prog.cellsOf 3 = 1 := by kernel_rfl
  have key : ∀ i, i < 8 → ∀ f : Field, f.type = 3 → f.offset = i → DataW.trod enc Try.prog W base sp held n f.type ((cs.toList.drop f.offset).take (Try.prog.cellsOf f.type)) = xs[i]? → ∃ a : Int, cs.toList[i]? = some (I a) := by
    intro i hi f ht ho hx
    rw [ht, ho, e1] at hx
    rw [List.getElem?_eq_getElem (by omega : i < xs.length)] at hx
    obtain ⟨a, hc, _⟩ := DataW.trod_int Try.underlying3 hx
    refine ⟨a, ?_⟩
    have := congrArg (fun l => l[0]?) hc
    simpa using this
  obtain ⟨a0, q0⟩ := key 0 (by omega) _ rfl rfl (hf 0 _ rfl)
  obtain ⟨a1, q1⟩ := key 1 (by omega) _ rfl rfl (hf 1 _ rfl)
  obtain ⟨a2, q2⟩ := key 2 (by omega) _ rfl rfl (hf 2 _ rfl)
  obtain ⟨a3, q3⟩ := key 3 (by omega) _ rfl rfl (hf 3 _ rfl)
  obtain ⟨a4, q4⟩ := key 4 (by omega) _ rfl rfl (hf 4 _ rfl)
  obtain ⟨a5, q5⟩ := key 5 (by omega) _ rfl rfl (hf 5 _ rfl)
  obtain ⟨a6, q6⟩ := key 6 (by omega) _ rfl rfl (hf 6 _ rfl)
  obtain ⟨a7, q7⟩ := key 7 (by omega) _ rfl rfl (hf 7 _ rfl)
  refine ⟨⟨a0, a1, a2, a3, a4, a5, a6, a7⟩, ?_⟩
  have el : cs.toList = [I a0, I a1, I a2, I a3, I a4, I a5, I a6, I a7] := by
    apply List.ext_getElem?
    intro i
    by_cases hi : i < 8
    · have : i = 0 ∨ i = 1 ∨ i = 2 ∨ i = 3 ∨ i = 4 ∨ i = 5 ∨ i = 6 ∨ i = 7 := by omega
      rcases this with rfl | rfl | rfl | rfl | rfl | rfl | rfl | rfl
      · exact q0
      · exact q1
      · exact q2
      · exact q3
      · exact q4
      · exact q5
      · exact q6
      · exact q7
    · rw [List.getElem?_eq_none (by omega), List.getElem?_eq_none (by simp; omega)]
  show Value.agg cs = .agg #[I a0, I a1, I a2, I a3, I a4, I a5, I a6, I a7]
  have ec : cs = #[I a0, I a1, I a2, I a3, I a4, I a5, I a6, I a7] := Array.toList_inj.1 el
  rw [ec]

structure ScrAt (w : World) (v : Value) (n : Nat) (l : Nat → Int × Int × Int) : Prop where
  form : ∃ ao cap, v = .slice ao n cap ∧ n ≤ cap ∧ n ≤ maxLen ∧ ∀ i, i < n → ∃ b off, ao = some ⟨b, off, none⟩ ∧ b < w.heap.size ∧
    w.cell? ⟨b, off + i * 3, none⟩ = some (I (l i).1) ∧ w.cell? ⟨b, off + i * 3 + 1, none⟩ = some (I (l i).2.1) ∧ w.cell? ⟨b, off + i * 3 + 2, none⟩ = some (I (l i).2.2)

/-- A list of raw numbers. -/
structure PicksIn (w : World) (v : Value) (n : Nat) (f : Nat → Int) : Prop where
  form : ∃ ao cap, v = .slice ao n cap ∧ n ≤ cap ∧ n ≤ maxLen ∧ ∀ i, i < n → -9223372036854775808 ≤ f i ∧ ∃ b off, ao = some ⟨b, off, none⟩ ∧ b < w.heap.size ∧ w.cell? ⟨b, off + i, none⟩ = some (I (f i))
set_option maxRecDepth 100000 in
theorem kop_open2 {H : Type} {enc : TypeId × Value → H} {W : World} {base n : Nat} {held : Bool} {sp : Nat → Bool} {cs : List Value} {x : DataW H × List MemPlace}
    (h : DataW.trod enc Try.prog W base sp held n 55 cs = some x) (hl : cs.length = 3) : ∃ q : Int × Int × Int, cs = [I q.1, I q.2.1, I q.2.2] := by
  obtain ⟨xs, m, h1, h2, _, hlen, hf⟩ := DataW.trod_struct Try.underlying55 h
  have hlen3 : xs.length = 3 := hlen
  have e1 : Try.prog.cellsOf 3 = 1 := by kernel_rfl
  have key : ∀ i, i < 3 → ∀ f : Field, f.type = 3 → f.offset = i → DataW.trod enc Try.prog W base sp held m f.type ((cs.drop f.offset).take (Try.prog.cellsOf f.type)) = xs[i]? → ∃ a : Int, cs[i]? = some (I a) := by
    intro i hi f ht ho hx
    rw [ht, ho, e1] at hx
    rw [List.getElem?_eq_getElem (by omega : i < xs.length)] at hx
    obtain ⟨a, hc, _⟩ := DataW.trod_int Try.underlying3 hx
    refine ⟨a, ?_⟩
    have := congrArg (fun l => l[0]?) hc
    simpa using this
  obtain ⟨a0, q0⟩ := key 0 (by omega) _ rfl rfl (hf 0 _ rfl)
  obtain ⟨a1, q1⟩ := key 1 (by omega) _ rfl rfl (hf 1 _ rfl)
  obtain ⟨a2, q2⟩ := key 2 (by omega) _ rfl rfl (hf 2 _ rfl)
  refine ⟨(a0, a1, a2), ?_⟩
  apply List.ext_getElem?
  intro i
  by_cases hi : i < 3
  · have : i = 0 ∨ i = 1 ∨ i = 2 := by omega
    rcases this with rfl | rfl | rfl
    · exact q0
    · exact q1
    · exact q2
  · rw [List.getElem?_eq_none (by omega), List.getElem?_eq_none (by simp; omega)]

theorem kscript_open2 {H : Type} {enc : TypeId × Value → H} {W : World} {base : Nat} {held : Bool} {ao : Option Addr} {len cap : Nat} {d : DataW H} {p : List MemPlace}
    (h : DataW.Trod enc Try.prog W base (fun _ => true) held 51 (.slice ao len cap) d p) : ∃ l, ScrAt W (.slice ao len cap) len l := by
  obtain ⟨fuel, hf⟩ := h
  rcases Go.Deep.open_slice Try.underlying51 hf with ⟨hcs, _⟩ | ⟨a, len', cap', m, n, D, Pl, hcs, _, hl, hm, hmm, _, hx⟩
  · simp [Value.cells] at hcs
    obtain ⟨rfl, rfl, rfl⟩ := hcs
    exact ⟨fun _ => (0, 0, 0), ⟨none, 0, rfl, Nat.le_refl _, Nat.zero_le _, fun i hi => absurd hi (by omega)⟩⟩
  · simp [Value.cells] at hcs
    obtain ⟨rfl, rfl, rfl⟩ := hcs
    have e3 : Try.prog.cellsOf 55 = 3 := by kernel_rfl
    simp only [if_true] at hmm
    subst hmm
    rw [e3] at hx
    have key : ∀ i, i < len → ∃ q : Int × Int × Int, ∃ b off, (some a : Option Addr) = some ⟨b, off, none⟩ ∧ b < W.heap.size ∧
        W.cell? ⟨b, off + i * 3, none⟩ = some (I q.1) ∧ W.cell? ⟨b, off + i * 3 + 1, none⟩ = some (I q.2.1) ∧ W.cell? ⟨b, off + i * 3 + 2, none⟩ = some (I q.2.2) := by
      intro i hi
      obtain ⟨cs', h1, h2⟩ := hx i (by omega)
      obtain ⟨_, hlen, hc⟩ := World.cells?_some h1
      obtain ⟨q, rfl⟩ := kop_open2 h2 hlen
      have c0 := hc 0 (by omega)
      have c1 := hc 1 (by omega)
      have c2 := hc 2 (by omega)
      obtain ⟨b, off, sp⟩ := a
      have hsp : sp = none := by
        cases sp with
        | none => rfl
        | some s =>
          exfalso
          obtain ⟨cs0, g1, g2⟩ := hx 0 (by omega)
          obtain ⟨_, glen, gc⟩ := World.cells?_some g1
          have g0 := gc 0 (by omega)
          rw [List.getElem?_eq_getElem (by omega)] at g0
          have ea : ((⟨b, off, some s⟩ : Addr).add (0 * 3)).add 0 = ⟨b, off, some s⟩ := by simp [Addr.add]
          rw [ea] at g0
          unfold World.cell? at g0
          split at g0 <;> simp at g0
      subst hsp
      have ad : ∀ j, ((⟨b, off, none⟩ : Addr).add (i * 3)).add j = ⟨b, off + i * 3 + j, none⟩ := by
        intro j
        unfold Addr.add
        split <;> split <;> simp_all
      rw [ad] at c0 c1 c2
      refine ⟨q, b, off, rfl, cell_lt c1, ?_, ?_, ?_⟩
      · simpa using c0
      · simpa using c1
      · simpa using c2
    obtain ⟨l, hl2⟩ := Go.Deep.choose_lt key
    exact ⟨l, ⟨some a, _, rfl, hl, Nat.le_trans hl hm, hl2⟩⟩

theorem kpicks_open {H : Type} {enc : TypeId × Value → H} {W : World} {base : Nat} {held : Bool} {ao : Option Addr} {len cap : Nat} {d : DataW H} {p : List MemPlace}
    (h : DataW.Trod enc Try.prog W base (fun _ => true) held 27 (.slice ao len cap) d p) : ∃ l, PicksIn W (.slice ao len cap) len l := by
  obtain ⟨fuel, hf⟩ := h
  rcases Go.Deep.open_slice Try.underlying27 hf with ⟨hcs, _⟩ | ⟨a, len', cap', m, n, D, Pl, hcs, _, hl, hm, hmm, _, hx⟩
  · simp [Value.cells] at hcs
    obtain ⟨rfl, rfl, rfl⟩ := hcs
    exact ⟨fun _ => 0, ⟨none, 0, rfl, Nat.le_refl _, Nat.zero_le _, fun i hi => absurd hi (by omega)⟩⟩
  · simp [Value.cells] at hcs
    obtain ⟨rfl, rfl, rfl⟩ := hcs
    have e1 : Try.prog.cellsOf 3 = 1 := by kernel_rfl
    simp only [if_true] at hmm
    subst hmm
    rw [e1] at hx
    have key : ∀ i, i < len → ∃ q : Int, -9223372036854775808 ≤ q ∧ ∃ b off, (some a : Option Addr) = some ⟨b, off, none⟩ ∧ b < W.heap.size ∧ W.cell? ⟨b, off + i, none⟩ = some (I q) := by
      intro i hi
      obtain ⟨cs', h1, h2⟩ := hx i (by omega)
      obtain ⟨_, hlen, hc⟩ := World.cells?_some h1
      obtain ⟨q, rfl, _, hwf⟩ := DataW.trod_int Try.underlying3 h2
      have c0 := hc 0 (by omega)
      obtain ⟨b, off, sp⟩ := a
      have hsp : sp = none := by
        cases sp with
        | none => rfl
        | some s =>
          exfalso
          obtain ⟨cs0, g1, g2⟩ := hx 0 (by omega)
          obtain ⟨_, glen, gc⟩ := World.cells?_some g1
          have g0 := gc 0 (by omega)
          rw [List.getElem?_eq_getElem (by omega)] at g0
          have ea : ((⟨b, off, some s⟩ : Addr).add (0 * 1)).add 0 = ⟨b, off, some s⟩ := by simp [Addr.add]
          rw [ea] at g0
          unfold World.cell? at g0
          split at g0 <;> simp at g0
      subst hsp
      have ad : ∀ j, ((⟨b, off, none⟩ : Addr).add (i * 1)).add j = ⟨b, off + i * 1 + j, none⟩ := by
        intro j
        unfold Addr.add
        split <;> split <;> simp_all
      rw [ad] at c0
      have c0' : W.cell? ⟨b, off + i, none⟩ = some (I q) := by simpa using c0
      exact ⟨q, (bounds_i64 hwf).1, b, off, rfl, cell_lt c0', c0'⟩
    obtain ⟨l, hl2⟩ := Go.Deep.choose_lt key
    exact ⟨l, ⟨some a, _, rfl, hl, Nat.le_trans hl hm, hl2⟩⟩

end Go.Proofs.Ytjnmpejcegmkhaa

namespace Go.Proofs.Ytjnmpejcegmkhaa
open Go.RowKit

theorem PicksIn.at' {w W : World} {B : Nat} {v : Value} {n : Nat} {f : Nat → Int} (h : PicksIn w v n f) (hb : Below w.heap.size w W) (hB : w.heap.size ≤ B) : PicksAt W B v n f := by
  obtain ⟨ao, cap, h1, h2, h3, h4⟩ := h.form
  refine ⟨⟨ao, cap, h1, h2, h3, fun i hi => ?_⟩⟩
  obtain ⟨a, b, off, e, lb, cb⟩ := h4 i hi
  exact ⟨a, b, off, e, by omega, Nat.lt_of_lt_of_le lb hb.size, (hb.cell (p := ⟨b, off + i, none⟩) lb).trans cb⟩

theorem plive_zero : ∀ l : List PP, (∀ i, (hi : i < l.length) → (l[i]).phase = 20) → pliveL l = 0
  | [], _ => rfl
  | p :: r, h => by
    have h0 := h 0 (by simp)
    simp only [List.getElem_cons_zero] at h0
    have ih := plive_zero r fun i hi => by
      have := h (i + 1) (by simpa using hi)
      simpa using this
    simp [pliveL, h0, ih]

set_option maxHeartbeats 8000000 in
set_option maxRecDepth 100000 in
theorem counts_walk (c : Conf) (w : World) (v : Value) (n : Nat) (l : Nat → Int × Int × Int) (hs : ScrAt w v n l) (pv : Value) (m : Nat) (pf : Nat → Int) (hpk : PicksIn w pv m pf) : Calls Try.prog 13 #[confV c, v, pv] w fun e w' => e = .returned (.bool true) ∧ Below w.heap.size w w' := by
  obtain ⟨ao, cap, rfl, n1, n2, h4⟩ := hs.form
  unfold maxLen at n2
  have HPK : Hid _ := hpk
  obtain ⟨ap, cp, epv, _⟩ := hpk.form
  subst epv
  clear hpk
  have H4 : Hid _ := h4
  clear hs h4
  have K1 : Hid (∀ e : c.kind = 1, (if c.kind = 1 then 0 else c.kind) = 0) := fun e => if_pos e
  have K2 : Hid (∀ e : ¬ c.kind = 1, (if c.kind = 1 then 0 else c.kind) = c.kind) := fun e => if_neg e
  generalize (if c.kind = 1 then 0 else c.kind) = kk at *
  unfold confV
  obtain ⟨ckind, cdepth, cstart, cslots, cwidth, cspin, cdrain, cprocs⟩ := c
  simp only at *
  have nb0 : (w.alloc (.cells #[I ckind, I cdepth, I cstart, I cslots, I cwidth, I cspin, I cdrain, I cprocs] 23)).heap[w.heap.size]? = some (.cells #[I ckind, I cdepth, I cstart, I cslots, I cwidth, I cspin, I cdrain, I cprocs] 23 (0, 0)) := nb_alloc _ _ _
  have hb0 : Below w.heap.size w (w.alloc (.cells #[I ckind, I cdepth, I cstart, I cslots, I cwidth, I cspin, I cdrain, I cprocs] 23)) := (Below.refl _ _).alloc (Nat.le_refl _) _
  go_enter Try.func13, Try.ntmps13
  go_upto_if 14 with fail
  go_cut [] (fun wx => wx.heap[w.heap.size]? = some (.cells #[I kk, I cdepth, I cstart, I cslots, I cwidth, I cspin, I cdrain, I cprocs] 23 (0, 0)) ∧ Below w.heap.size w wx)
  case first =>
    by_cases e : ckind = 1
    · have b : (ckind == 1) = true := by rw [beq_iff_eq]; exact e
      have ed := K1.out e
      subst ed
      clear e
      go_wp2_with fail
      go_meet
      exact ⟨nb_alloc _ _ _, (Below.refl _ _).alloc (Nat.le_refl _) _⟩
    · have b : (ckind == 1) = false := by rw [beq_eq_false_iff_ne]; exact e
      have ed := K2.out e
      subst ed
      clear e
      go_wp2_with fail
      go_meet
      exact ⟨nb0, hb0⟩
  case rest =>
    obtain ⟨nb1, hb1⟩ := hcut
    have hk1 : Hid (kk ≠ 1) := by
      show kk ≠ 1
      by_cases e : ckind = 1
      · rw [K1.out e]; omega
      · rw [K2.out e]; exact e
    generalize wc = wa at *
    obtain ⟨x1, f1⟩ := nb_facts nb1
    have l1 := (Array.getElem?_eq_some_iff.1 nb1).1
    clear nb0 hb0 K1 K2
    cases hm : mayC ⟨kk, cdepth, cstart, cslots, cwidth, cspin, cdrain, cprocs⟩
    · have hbg := fun W => kbegin_no ⟨kk, cdepth, cstart, cslots, cwidth, cspin, cdrain, cprocs⟩ W hm
      unfold confV at hbg
      replace hbg : Hid _ := hbg
      clear hm
      go_wp2_with fail
      refine Calls.mono (hbg.out _) ?_
      rintro e w1 ⟨rfl, hb2⟩
      go_wp2_with fail
      go_ret
      exact ⟨rfl, hb1.trans (hb2.mono hb1.size)⟩
    · have hbg := fun W => kbegin_yes ⟨kk, cdepth, cstart, cslots, cwidth, cspin, cdrain, cprocs⟩ W hm
      unfold confV at hbg
      replace hbg : Hid _ := hbg
      have HM : Hid _ := hm
      have hk0 : Hid (kk = 0) := by
        show kk = 0
        have := hk1.out
        simp [mayC] at hm
        omega
      clear hm
      go_wp2_with fail
      refine Calls.mono (hbg.out _) ?_
      rintro e w2 ⟨hb, P, rfl, hk, hpn, hb2⟩
      have hst := KSt.new HM.out hk hpn hb2.size
      have hbw : Below w.heap.size w w2 := hb1.trans (hb2.mono hb1.size)
      have hz0 : ZOk ⟨kk, cdepth, cstart, cslots, cwidth, cspin, cdrain, cprocs⟩ (newLay ⟨kk, cdepth, cstart, cslots, cwidth, cspin, cdrain, cprocs⟩) := ZOk.new hk0.out
      have HB : Hid (w.heap.size ≤ wa.heap.size) := hb1.size
      generalize wa.heap.size = B at *
      have HSX : Hid (∃ S P, KSt w2 B hb ⟨kk, cdepth, cstart, cslots, cwidth, cspin, cdrain, cprocs⟩ S P ∧ ZOk ⟨kk, cdepth, cstart, cslots, cwidth, cspin, cdrain, cprocs⟩ S.L) := ⟨_, _, hst, hz0⟩
      clear hbg hb2 hk hpn hst hz0 HM nb1 x1 f1 l1 hb1 hk0 hk1
      generalize (⟨kk, cdepth, cstart, cslots, cwidth, cspin, cdrain, cprocs⟩ : Conf) = c at *
      go_wp2_with fail
      go_loopw [8, 9] (fun _ ii wr => ∃ k : Nat, k ≤ n ∧ ii = .int .i64 k ∧ Hid (∃ S P, KSt wr B hb c S P ∧ ZOk c S.L) ∧ Below w.heap.size w wr) (fun _ ii _ => n - (intOf ii).toNat)
      case atStart => exact ⟨0, Nat.zero_le _, rfl, HSX.out, hbw⟩
      case round =>
        obtain ⟨k, hk, rfl, hst', hbr⟩ := hrel
        obtain ⟨S, P', hst2, hx2⟩ := hst'.out
        by_cases hlt : k < n
        · obtain ⟨b, off, rfl, lb, p0, p1, p2⟩ := H4.out k hlt
          have d0 := (hbr.cell (p := ⟨b, off + k * 3, none⟩) lb).trans p0
          have d1 := (hbr.cell (p := ⟨b, off + k * 3 + 1, none⟩) lb).trans p1
          have d2 := (hbr.cell (p := ⟨b, off + k * 3 + 2, none⟩) lb).trans p2
          have ld := cell_lt d0
          generalize (l k).1 = o1 at *
          generalize (l k).2.1 = o2 at *
          generalize (l k).2.2 = o3 at *
          have hpl := hplay_c hst2 o1 o2 o3
          have HX3 : Hid (ZOk c (gplay c S o1 o2 o3).L) := ZOk.play hst2 hx2 o1 o2 o3
          have HBB : Hid (B ≤ _) := hst2.hB
          replace hpl : Hid _ := hpl
          have bk : decide ((k : Int) < (n : Int)) = true := decide_eq_true (by omega)
          clear p0 p1 p2 H4 hst2 hst' HSX hx2 HPK
          generalize gplay c S o1 o2 o3 = S3 at *
          go_wp2_with fail
          refine Calls.mono hpl.out ?_
          rintro e w3 ⟨rfl, ⟨P3, hst3⟩, hc3⟩
          have hb3 : Below w.heap.size w w3 := hbr.trans ((hc3.below HBB.out).mono HB.out)
          have hnu := knumbers_c hst3 HX3.out
          replace hnu : Hid _ := hnu
          have HS3 : Hid (KSt w3 B hb c S3 P3) := hst3
          clear hpl hc3 hst3
          go_wp2_with fail
          refine Calls.mono hnu.out ?_
          rintro e w4 ⟨rfl, hb4⟩
          have HS4 : Hid (∃ S P, KSt w4 B hb c S P ∧ ZOk c S.L) := ⟨_, _, HS3.out.below hb4, HX3.out⟩
          have hb5 : Below w.heap.size w w4 := hb3.trans (hb4.mono hb3.size)
          clear hnu hb4 hb3 HS3
          go_wp2_with fail
          go_roundw
          case rel => exact ⟨k + 1, by omega, by go_num, HS4.out, hb5⟩
          case measure => simp [intOf]; omega
        · have bk : decide ((k : Int) < (n : Int)) = false := decide_eq_false (by omega)
          have hse := kcsettle_c hst2 hx2 _ m pf (PicksIn.at' HPK.out hbr HB.out)
          replace hse : Hid _ := hse
          clear H4 HSX hst' hst2 hx2
          go_wp2_with fail
          refine Calls.mono hse.out ?_
          rintro e w3 ⟨rfl, ⟨S3, P3, hst3, hx3, _, harr⟩, hb3⟩
          have hb4 : Below w.heap.size w w3 := hbr.trans (hb3.mono HB.out)
          have hlv := klive_c hst3.rep
          have hz : pliveL P3.procs = 0 := plive_zero _ fun i hi => by
            have e := hst3.rel.rel.procs
            have hi' : i < S3.L.procs.length := by rw [e] at hi; simpa using hi
            have := harr i hi'
            simp only [e, List.getElem_map]
            exact this
          rw [hz] at hlv
          replace hlv : Hid _ := hlv
          have HS3 : Hid (KSt w3 B hb c S3 P3) := hst3
          have HX3 : Hid (ZOk c S3.L) := hx3
          clear hse hst3 hx3 harr hb3 hz
          go_wp2_with fail
          refine Calls.mono hlv.out ?_
          rintro e w4 ⟨rfl, hb5⟩
          have hnu := knumbers_c (HS3.out.below hb5) HX3.out
          replace hnu : Hid _ := hnu
          have hb6 : Below w.heap.size w w4 := hb4.trans (hb5.mono hb4.size)
          clear hlv hb5
          go_wp2_with fail
          refine Calls.mono hnu.out ?_
          rintro e w5 ⟨rfl, hb7⟩
          clear hnu
          go_wp2_with fail
          go_ret
          exact ⟨rfl, hb6.trans (hb7.mono hb6.size)⟩

end Go.Proofs.Ytjnmpejcegmkhaa
