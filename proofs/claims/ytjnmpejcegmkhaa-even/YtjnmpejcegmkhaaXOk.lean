/- What holds of the document's tree through every play of a hand. No statement of the seat is proved here. -/
import Derived.Test.YtjnmpejcegmkhaaTot
namespace Go.Proofs.Ytjnmpejcegmkhaa
open Go.RowKit

structure XOk (c : Conf) (L : Lay) : Prop where
  pat : PatOk c L
  tot : TotOk L

theorem XOk.step {c : Conf} {L : Lay} {P : PLay} (h : CRel c L P) (x : XOk c L) {i : Nat} (hi : i < L.procs.length) (hl : (L.procs[i]).2.phase ≠ 20) (draw : Int) : XOk c (lstep L i draw) := by
  obtain ⟨_, _, _, _, hp, _⟩ := h.sq x.pat hi hl draw
  obtain ⟨v, n, hh⟩ := h.rel.here hi hl
  exact ⟨hp, hh.tot h.ck draw x.tot⟩

theorem XOk.lround {c : Conf} {L : Lay} {P : PLay} (h : CRel c L P) (x : XOk c L) (d : Int) : ∀ k, k ≤ L.procs.length → XOk c (lroundTo L d k)
  | 0, _ => x
  | k + 1, hk => by
    obtain ⟨⟨P', h'⟩, _, _⟩ := lround_keep h d k (by omega)
    have ih := XOk.lround h x d k (by omega)
    have hl : k < (lroundTo L d k).procs.length := by rw [lroundTo_len]; omega
    unfold lroundTo
    split
    · exact ih
    · rename_i hne
      have hp : ((lroundTo L d k).procs[k]).2.phase ≠ 20 := by
        rw [List.getD_eq_getElem?_getD, List.getElem?_eq_getElem hl] at hne
        exact hne
      exact XOk.step h' ih hl hp (d + k)
theorem XOk.lrest {c : Conf} {L : Lay} {P : PLay} (h : CRel c L P) (x : XOk c L) (m : Int) : ∀ r, XOk c (lrest L m r)
  | 0 => x
  | r + 1 => by
    obtain ⟨⟨P', h'⟩, _, _⟩ := lrest_keep h m r
    have ih := XOk.lrest h x m r
    unfold Go.Proofs.Ytjnmpejcegmkhaa.lrest
    exact XOk.lround h' ih (m + r) L.procs.length (by rw [lrest_len]; omega)

theorem sumP_one (f : Pr → Int) (x : Nat × Pr) : ∀ ps : Ps, sumP f (ps ++ [x]) = sumP f ps + f x.2
  | [] => by simp [sumP]
  | y :: r => by simp only [List.cons_append, sumP]; rw [sumP_one f x r]; omega

theorem XOk.spawn {c : Conf} {L : Lay} {P : PLay} (h : CRel c L P) (x : XOk c L) (o : Op3) : XOk c { L with procs := L.procs ++ [(0, newPr o)] } := by
  have hph : (newPr o).phase = 0 ∨ ((newPr o).phase = 15 ∧ 3 ≤ o.kind) := by
    unfold newPr
    by_cases e : isChange o ∧ o.node = 1
    · right
      refine ⟨by simp [e], ?_⟩
      have := e.1
      unfold isChange at this
      simp at this
      omega
    · left
      simp [e]
  refine ⟨fun i hi => ?_, ?_⟩
  · have hi' : i < (L.procs ++ [(0, newPr o)]).length := hi
    simp only [List.length_append, List.length_cons, List.length_nil] at hi'
    by_cases e : i < L.procs.length
    · simp only [List.getElem_append_left e]
      exact x.pat i e
    · have e' : i = L.procs.length := by omega
      subst e'
      simp only [List.getElem_append_right (Nat.le_refl _), Nat.sub_self, List.getElem_cons_zero]
      refine ⟨fun a => ?_, fun a => ?_⟩
      · have : (newPr o).phase = 6 := a
        omega
      · have : (newPr o).phase = 16 := a
        omega
  · have ht := x.tot
    unfold TotOk at ht ⊢
    show balS L + sumP (tokP (L.procs ++ [(0, newPr o)])) (L.procs ++ [(0, newPr o)]) = sumP (fun p => sgn p.kind) (L.procs ++ [(0, newPr o)])
    rw [sumP_one, sumP_one]
    have e1 : sumP (tokP (L.procs ++ [(0, newPr o)])) L.procs = sumP (tokP L.procs) L.procs := by
      refine sumP_congr _ _ _ fun j hj => ?_
      cases hm : metB (L.procs[j]).2 with
      | false => unfold tokP; rw [hm]; simp
      | true =>
        have hlt : (L.procs[j]).2.met.toNat < L.procs.length := by
          have hm' := hm
          unfold metB at hm'
          simp only [Bool.and_eq_true, Bool.or_eq_true, decide_eq_true_eq] at hm'
          obtain ⟨v, n, hh⟩ := h.rel.here hj (by omega)
          obtain ⟨k, hk, hs⟩ := hh.slotk
          obtain ⟨_, hx⟩ := hh.mine hm'.1 hk hs (hh.inner (by omega) (by omega))
          rcases hx with ⟨_, _, e⟩ | ⟨_, b, _, e, hb, _⟩
          · omega
          · omega
        unfold tokP
        rw [kindAt_app hlt]
    have e2 : tokP (L.procs ++ [(0, newPr o)]) (newPr o) = sgn (newPr o).kind := by
      rcases hph with e | ⟨e, hk⟩
      · rw [tokP_lo (by omega), if_pos (by omega)]
      · rw [tokP_ch (show 3 ≤ (newPr o).kind from hk)]
        show 0 = sgn o.kind
        unfold sgn
        rw [if_neg (by omega), if_neg (by omega)]
    rw [e1]
    show balS L + (_ + tokP (L.procs ++ [(0, newPr o)]) (newPr o)) = _ + sgn (newPr o).kind
    rw [e2]
    omega

theorem XOk.new (c : Conf) : XOk c (newLay c) := by
  refine ⟨fun i hi => absurd hi (Nat.not_lt_zero _), ?_⟩
  show balS (newLay c) + 0 = 0
  have : balS (newLay c) = 0 := by
    unfold balS
    refine sumN_zero _ _ fun w hw => ?_
    by_cases h0 : w = 0
    · subst h0
      rw [(newLay_new c).hist0]
      simp [balH, formH]
    · rw [(newLay_new c).hist w (by omega) hw]
      unfold newHist
      split
      · simp [balH, formH]
      · split
        · simp [balH, formH, putsH, fromH, manyH]
        · simp [balH, formH]
  omega

theorem XOk.play {w : World} {B hb : Nat} {c : Conf} {S : Gh} {P : PLay} (h : KSt w B hb c S P) (x : XOk c S.L) (k a b : Int) : XOk c (gplay c S k a b).L := by
  unfold gplay
  split
  · unfold gstep
    split
    · rename_i hh
      have hi : a.toNat < S.L.procs.length := by omega
      have h20 := hh.2.2
      rw [phaseAt_eq S.L _ hi] at h20
      exact XOk.step h.rel x hi h20 b
    · exact x
  · split
    · unfold grest
      split
      · exact XOk.lrest h.rel x _ _
      · exact x
    · split
      · unfold gspawn
        split
        · exact XOk.spawn h.rel x _
        · exact x
      · exact x

end Go.Proofs.Ytjnmpejcegmkhaa
