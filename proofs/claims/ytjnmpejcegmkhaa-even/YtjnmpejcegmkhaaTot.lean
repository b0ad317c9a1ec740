/- What has gone in lies in the leaves, or is on its way (the document's tree alone). No statement of the seat is proved here. -/
import Derived.Test.YtjnmpejcegmkhaaWorkA
namespace Go.Proofs.Ytjnmpejcegmkhaa
open Go.RowKit

def balS (L : Lay) : Int := sumN (fun w => balH (L.hist w)) L.past.length
def TotOk (L : Lay) : Prop := balS L + sumP (tokP L.procs) L.procs = sumP (fun p => sgn p.kind) L.procs

theorem tokP_lo {ps : Ps} {p : Pr} (h : ¬ (p.phase = 6 ∨ p.phase = 7)) : tokP ps p = if p.phase ≤ 12 then sgn p.kind else 0 := by
  have : metB p = false := by
    unfold metB
    have h6 : ¬ p.phase = 6 := fun x => h (Or.inl x)
    have h7 : ¬ p.phase = 7 := fun x => h (Or.inr x)
    simp [h6, h7]
  unfold tokP
  rw [this]
  simp
theorem tokP_ch {ps : Ps} {p : Pr} (h : 3 ≤ p.kind) : tokP ps p = 0 := by
  have : sgn p.kind = 0 := by unfold sgn; rw [if_neg (by omega), if_neg (by omega)]
  unfold tokP
  rw [this]
  split <;> simp
theorem tokP_un {ps : Ps} {p : Pr} (h : p.phase = 6 ∨ p.phase = 7) (hm : p.met < 0) : tokP ps p = sgn p.kind := by
  have : metB p = false := by
    unfold metB
    have : ¬ 0 ≤ p.met := by omega
    simp [this]
  unfold tokP
  rw [this, if_pos (by omega)]
  simp
theorem tokP_met {ps : Ps} {p : Pr} (h : p.phase = 6 ∨ p.phase = 7) (hm : 0 ≤ p.met) : tokP ps p = if kindAt ps p.met = p.kind then sgn p.kind else 0 := by
  have : metB p = true := by
    unfold metB
    rcases h with x | x <;> simp [x, hm]
  unfold tokP
  rw [this, if_pos (by omega)]
  by_cases e : kindAt ps p.met = p.kind <;> simp [e]

theorem tok_set {ps : Ps} {i : Nat} (hi : i < ps.length) {x : Nat × Pr} (hk : x.2.kind = (ps[i]).2.kind) : tokP (ps.set i x) = tokP ps := by
  funext p
  unfold tokP
  rw [kindAt_set hi hk]
theorem sgn_set {ps : Ps} {i : Nat} (hi : i < ps.length) {x : Nat × Pr} (hk : x.2.kind = (ps[i]).2.kind) : sumP (fun p => sgn p.kind) (ps.set i x) = sumP (fun p => sgn p.kind) ps := by
  rw [sumP_set _ _ _ hi, hk]
  omega

theorem tot_one {L L' : Lay} (h : TotOk L) {i : Nat} (hi : i < L.procs.length) {pb : Nat} {p' : Pr} (hp : L'.procs = L.procs.set i (pb, p')) (hk : p'.kind = (L.procs[i]).2.kind) (hs : balS L' = balS L + (tokP L.procs (L.procs[i]).2 - tokP L.procs p')) : TotOk L' := by
  unfold TotOk at h ⊢
  rw [hp, tok_set hi hk, sgn_set hi hk, sumP_set _ _ _ hi]
  simp only
  omega

theorem balS_hap (L : Lay) (v : Nat) (x : Value) (ev : Ev) (iv : Value) (hv : v < L.past.length) : balS (L.hap v x ev iv) = balS L + (balH ((ev, iv) :: L.hist v) - balH (L.hist v)) := by
  unfold balS
  rw [hap_len]
  have := sumN_upd (fun w => balH (L.hist w)) (fun w => balH ((L.hap v x ev iv).hist w)) v L.past.length hv (fun k _ hne => by rw [hist_hap L v k x ev iv hv, if_neg hne])
  rw [this, hist_hap L v v x ev iv hv, if_pos rfl]
  omega

section
variable {c : Conf} {L : Lay} {P : PLay} {i v : Nat} {p : Pr} {n : PN}

theorem Here.tot (h : Here c L P i v p n) (ck : CK c L P) (draw : Int) (ht : TotOk L) : TotOk (lstep L i draw) := by
  have hi := h.hi
  have hep := h.ep
  have hv := h.vN
  have ha := h.at'
  have hph := h.q.phase
  have hlive := h.live
  have hcq := ck.ci.cq i hi
  rw [hep] at hcq
  have hkp := hcq.kp
  have stay : ∀ q p' : Pr, p'.kind = p.kind → tokP L.procs p' = tokP L.procs p → TotOk ((L.setP i q).setP i p') := by
    intro q p' e1 e2
    refine tot_one ht hi (pb := (L.procs.getD i (0, q)).1) (p' := p') ?_ (by rw [hep]; exact e1) ?_
    · show (L.procs.set i _).set i _ = _
      rw [List.set_set]
      congr 2
      simp [List.getD_eq_getElem?_getD, hi]
    · rw [hep, e2]
      show balS L = _
      omega
  have one : ∀ q p' : Pr, p'.kind = p.kind → tokP L.procs p' = tokP L.procs p → TotOk (L.setP i p') := by
    intro q p' e1 e2
    refine tot_one ht hi (pb := (L.procs.getD i (0, p')).1) (p' := p') rfl (by rw [hep]; exact e1) ?_
    rw [hep, e2]
    show balS L = _
    omega
  have happ : ∀ (q p' : Pr) (ev : Ev), p'.kind = p.kind → balH ((ev, nilV) :: L.hist v) - balH (L.hist v) = tokP L.procs p - tokP L.procs p' → TotOk (((L.setP i q).hap v nilV ev nilV).setP i p') := by
    intro q p' ev e1 e2
    refine tot_one ht hi (pb := (L.procs.getD i (0, q)).1) (p' := p') ?_ (by rw [hep]; exact e1) ?_
    · show (L.procs.set i _).set i _ = _
      rw [List.set_set]
      congr 2
      simp [List.getD_eq_getElem?_getD, hi]
    · rw [hep, ← e2]
      have := balS_hap (L.setP i q) v nilV ev nilV hv
      exact this
  rw [h.lat draw, h.lget]
  simp only
  by_cases e8 : p.phase = 8
  · rw [if_pos e8]
    obtain ⟨j, hm, hj, hji⟩ := h.q.mind e8
    have ej : p.mind.toNat = j := by omega
    rw [ej, List.getElem?_eq_getElem hj]
    simp only
    have tp : tokP L.procs p = sgn p.kind := by rw [tokP_lo (p := p) (by omega), if_pos (by omega)]
    split
    · rename_i hme
      unfold meets at hme
      simp only [Bool.and_eq_true, decide_eq_true_eq] at hme
      obtain ⟨⟨_, y6⟩, ymet⟩ := hme
      have hqj := (h.rel.qs j hj).kind
      have hqi := h.q.kind
      have hkj := (ck.ci.cq j hj).kp
      obtain ⟨y, hy⟩ : ∃ y, (L.procs[j]).2 = y := ⟨_, rfl⟩
      rw [hy] at y6 ymet hqj hkj ⊢
      have kp3 : p.kind < 3 := Int.not_le.1 fun x => by have := hkp.chg x; omega
      have kj3 : y.kind < 3 := Int.not_le.1 fun x => by have := hkj.chg x; omega
      have ty : tokP L.procs y = sgn y.kind := tokP_un (Or.inl y6) ymet
      have kat : kindAt L.procs (i : Int) = p.kind := by
        unfold kindAt
        simp [hi, hep]
      obtain ⟨y', hy'⟩ : ∃ y' : Pr, y' = { y with met := (i : Int) } := ⟨_, rfl⟩
      have ky' : y'.kind = y.kind := by rw [hy']
      have ty' : tokP L.procs y' = if p.kind = y.kind then sgn y.kind else 0 := by
        rw [tokP_met (p := y') (Or.inl (by rw [hy']; exact y6)) (by rw [hy']; show (0 : Int) ≤ (i : Int); omega), ky']
        have : y'.met = (i : Int) := by rw [hy']
        rw [this, kat]
      rw [← hy']
      have ts : tokP L.procs (settledPr (incPr p) y 1) = if p.kind = y.kind then sgn p.kind else 0 := by
        unfold settledPr
        by_cases e : p.kind = y.kind
        · rw [if_pos (show (incPr p).kind = y.kind from e), if_pos e, tokP_lo (by show ¬ ((0 : Int) = 6 ∨ (0 : Int) = 7); decide), if_pos (by show (0 : Int) ≤ 12; decide)]
        · rw [if_neg (show ¬ (incPr p).kind = y.kind from e), if_neg e]
          split
          · rw [tokP_lo (by show ¬ ((19 : Int) = 6 ∨ (19 : Int) = 7); decide), if_neg (by show ¬ (19 : Int) ≤ 12; decide)]
          · rw [tokP_lo (by show ¬ ((19 : Int) = 6 ∨ (19 : Int) = 7); decide), if_neg (by show ¬ (19 : Int) ≤ 12; decide)]
      have ks : (settledPr (incPr p) y 1).kind = p.kind := by
        unfold settledPr
        split
        · rfl
        · split <;> rfl
      have hbal : tokP L.procs y' + tokP L.procs (settledPr (incPr p) y 1) = tokP L.procs y + tokP L.procs p := by
        rw [ty', ts, ty, tp]
        by_cases e : p.kind = y.kind
        · rw [if_pos e, if_pos e]
        · rw [if_neg e, if_neg e]
          have : (p.kind = 1 ∧ y.kind = 2) ∨ (p.kind = 2 ∧ y.kind = 1) := by omega
          rcases this with ⟨a, b⟩ | ⟨a, b⟩ <;> rw [a, b] <;> rfl
      generalize settledPr (incPr p) y 1 = p' at *
      obtain ⟨a, b, eproc⟩ : ∃ a b, (((L.setP i (incPr p)).setP j y').setP i p').procs = (L.procs.set j (a, y')).set i (b, p') := by
        have e3 : ∀ x0 x1 x2 : Nat × Pr, ((L.procs.set i x0).set j x1).set i x2 = (L.procs.set j x1).set i x2 := by
          intro x0 x1 x2
          rw [List.set_comm _ _ (Ne.symm hji), List.set_set]
        exact ⟨_, _, e3 _ (_, y') (_, p')⟩
      unfold TotOk at ht ⊢
      have eb : balS (((L.setP i (incPr p)).setP j y').setP i p') = balS L := rfl
      rw [eproc, eb]
      have hij : i < (L.procs.set j (a, y')).length := by simpa using hi
      have egi : ((L.procs.set j (a, y'))[i]).2 = p := by rw [List.getElem_set_ne hji]; exact hep
      have kk1 : (b, p').2.kind = ((L.procs.set j (a, y'))[i]).2.kind := by rw [egi]; exact ks
      have kk2 : (a, y').2.kind = (L.procs[j]).2.kind := by rw [hy]; exact ky'
      rw [tok_set hij kk1, sgn_set hij kk1, tok_set hj kk2, sgn_set hj kk2, sumP_set _ _ _ hij, sumP_set _ _ _ hj, egi, hy]
      simp only
      omega
    · refine stay _ _ rfl ?_
      rw [tp, tokP_lo (by show ¬ ((9 : Int) = 6 ∨ (9 : Int) = 7); decide), if_pos (by show (9 : Int) ≤ 12; decide)]
  rw [if_neg e8]
  by_cases e9 : p.phase = 9
  · rw [if_pos e9]
    refine happ _ _ _ rfl ?_
    rw [(bal_over (L.hist v) ⟨5, _, 0, []⟩ nilV (by show (3 : Int) < 5; decide) (by show (5 : Int) ≠ 6; decide) (by show (5 : Int) ≠ 7; decide)).1, tokP_lo (p := p) (by omega), tokP_lo (by show ¬ ((11 : Int) = 6 ∨ (11 : Int) = 7); decide), if_pos (by omega), if_pos (by show (11 : Int) ≤ 12; decide)]
    show balH (L.hist v) - balH (L.hist v) = sgn p.kind - sgn p.kind
    omega
  rw [if_neg e9]
  by_cases e10 : p.phase = 10
  · rw [if_pos e10]
    refine happ _ _ _ rfl ?_
    rw [(bal_over (L.hist v) ⟨5, _, 0, []⟩ nilV (by show (3 : Int) < 5; decide) (by show (5 : Int) ≠ 6; decide) (by show (5 : Int) ≠ 7; decide)).1, tokP_lo (p := p) (by omega), tokP_lo (by show ¬ ((11 : Int) = 6 ∨ (11 : Int) = 7); decide), if_pos (by omega), if_pos (by show (11 : Int) ≤ 12; decide)]
    show balH (L.hist v) - balH (L.hist v) = sgn p.kind - sgn p.kind
    omega
  rw [if_neg e10]
  by_cases e11 : p.phase = 11
  · rw [if_pos e11]
    refine happ _ _ _ rfl ?_
    rw [(bal_over (L.hist v) ⟨4, 0, 0, []⟩ nilV (by show (3 : Int) < 4; decide) (by show (4 : Int) ≠ 6; decide) (by show (4 : Int) ≠ 7; decide)).1, tokP_lo (p := p) (by omega), tokP_lo (by show ¬ ((0 : Int) = 6 ∨ (0 : Int) = 7); decide), if_pos (by omega), if_pos (by show (0 : Int) ≤ 12; decide)]
    show balH (L.hist v) - balH (L.hist v) = sgn p.kind - sgn p.kind
    omega
  rw [if_neg e11]
  by_cases e12 : p.phase = 12
  · rw [if_pos e12]
    have hf := h.isLeaf (by omega) (by omega)
    have hb6 : balH ((⟨6, 0, 0, []⟩, nilV) :: L.hist v) - balH (L.hist v) = 1 := by
      unfold balH putsH
      simp [formH, fromH, manyH, hf]
      omega
    have hb7 : balH ((⟨7, 0, 0, []⟩, nilV) :: L.hist v) - balH (L.hist v) = -1 := by
      unfold balH putsH
      simp [formH, fromH, manyH, hf]
      omega
    have hk3 : p.kind < 3 := Int.not_le.1 fun x => by have := hkp.chg x; omega
    have hk0 := hcq.kinds
    have tp : tokP L.procs p = sgn p.kind := by rw [tokP_lo (p := p) (by omega), if_pos (by omega)]
    split
    · rename_i hk
      refine happ _ _ _ rfl ?_
      rw [hb6, tp, tokP_lo (by show ¬ ((19 : Int) = 6 ∨ (19 : Int) = 7); decide), if_neg (by show ¬ (19 : Int) ≤ 12; decide), hk]
      rfl
    · split
      · rename_i hk
        refine happ _ _ _ rfl ?_
        rw [hb6, tp, tokP_lo (by show ¬ ((13 : Int) = 6 ∨ (13 : Int) = 7); decide), if_neg (by show ¬ (13 : Int) ≤ 12; decide), hk]
        rfl
      · refine happ _ _ _ rfl ?_
        rw [hb7, tp, tokP_lo (by show ¬ ((14 : Int) = 6 ∨ (14 : Int) = 7); decide), if_neg (by show ¬ (14 : Int) ≤ 12; decide), show p.kind = 2 by omega]
        rfl
  rw [if_neg e12]
  by_cases e13 : p.phase = 13
  · rw [if_pos e13]
    split
    · refine happ _ _ _ rfl ?_
      rw [(bal_over (L.hist v) ⟨8, _, _, []⟩ nilV (by show (3 : Int) < 8; decide) (by show (8 : Int) ≠ 6; decide) (by show (8 : Int) ≠ 7; decide)).1, tokP_lo (p := p) (by omega), tokP_lo (by show ¬ ((19 : Int) = 6 ∨ (19 : Int) = 7); decide), if_neg (by omega), if_neg (by show ¬ (19 : Int) ≤ 12; decide)]
      omega
    · refine one p _ rfl ?_
      rw [tokP_lo (p := p) (by omega), tokP_lo (by show ¬ (p.phase = 6 ∨ p.phase = 7); omega)]
  rw [if_neg e13]
  by_cases e14 : p.phase = 14
  · rw [if_pos e14]
    split
    · refine happ _ _ _ rfl ?_
      rw [(bal_over (L.hist v) ⟨9, _, 0, []⟩ nilV (by show (3 : Int) < 9; decide) (by show (9 : Int) ≠ 6; decide) (by show (9 : Int) ≠ 7; decide)).1, tokP_lo (p := p) (by omega), tokP_lo (by show ¬ ((19 : Int) = 6 ∨ (19 : Int) = 7); decide), if_neg (by omega), if_neg (by show ¬ (19 : Int) ≤ 12; decide)]
      omega
    · refine one p _ rfl ?_
      rw [tokP_lo (p := p) (by omega), tokP_lo (by show ¬ (p.phase = 6 ∨ p.phase = 7); omega)]
  rw [if_neg e14]
  by_cases e17 : p.phase = 17
  · rw [if_pos e17]
    have tg := h.target17 ck e17
    have hkid := tg.kid
    have h1v := h.v1
    have hk3 : 3 ≤ p.kind := Int.not_lt.1 fun x => hkp.walk x (by omega)
    have upk : ∀ q : Pr, (upPr q).kind = q.kind := fun q => rfl
    have hcf := h.rel.confs
    have hcL := h.rel.cL
    have zero : ∀ (L' : Lay) (r : Int) (q : Pr), L'.procs = ((L.setP i q).setP i (upPr { incPr p with val := r })).procs → balS L' = balS L → TotOk L' := by
      intro L' r q e1 e2
      refine tot_one ht hi (pb := (L.procs.getD i (0, q)).1) (p' := upPr { incPr p with val := r }) ?_ (by rw [hep]; rfl) ?_
      · rw [e1]
        show (L.procs.set i _).set i _ = _
        rw [List.set_set]
        congr 2
        simp [List.getD_eq_getElem?_getD, hi]
      · rw [hep, e2, tokP_ch (p := p) hk3, tokP_ch (by show 3 ≤ p.kind; exact hk3)]
        omega
    split
    · rename_i hk4
      refine zero _ 1 (incPr p) rfl ?_
      have hf : formH (L.hist v) = 2 := by rw [tg.form, if_neg (by omega)]
      have hno : ∀ w, w / 2 = v → 2 ≤ w → w < L.past.length → formH (L.hist w) = 3 := by
        intro w hw h2 hwN
        by_cases f : formH (L.hist w) = 3
        · exact f
        · have := ck.ci.par w h2 hwN f
          rw [hw] at this
          omega
      have f0 := hno (2 * v) (by omega) (by omega) (by omega)
      have f1 := hno (2 * v + 1) (by omega) (by omega) hkid
      have b0 : balH (L.hist (2 * v)) = 0 := by unfold balH; rw [f0]; simp
      have b1 : balH (L.hist (2 * v + 1)) = 0 := by unfold balH; rw [f1]; simp
      have hN : unfN (L.setP i (incPr p)) v = balH (L.hist v) := by
        unfold unfN
        show (if L.c.kind = 0 then putsH (L.hist v) else ((itemsH (L.hist v)).length : Int)) = _
        rw [hcL]
        rcases hcf.1 with k0 | k1
        · rw [if_pos k0]; exact h.bal_count ck tg k0 v (Or.inl rfl) hf
        · rw [if_neg (by omega)]; exact h.bal_pool ck tg k1 v (Or.inl rfl) hf
      show balS ((L.setP i (incPr p)).unfolded v nilV nilV nilV nilV nilV) = balS L
      unfold Lay.unfolded
      rw [balS_hap _ _ _ _ _ (by simp; omega), balS_hap _ _ _ _ _ (by simp; omega), balS_hap _ _ _ _ _ (by exact hv), hN]
      have g1 : (((L.setP i (incPr p)).hap v nilV ⟨1, balH (L.hist v) % 2, 0, []⟩ nilV).hist (2 * v)) = L.hist (2 * v) := by rw [hap_hist _ _ _ _ _ _ (by exact hv) (by omega)]; rfl
      have g2 : ((((L.setP i (incPr p)).hap v nilV ⟨1, balH (L.hist v) % 2, 0, []⟩ nilV).hap (2 * v) nilV ⟨2, (balH (L.hist v) + 1) / 2, 0, evT (itemsH ((L.setP i (incPr p)).hist v)) (itemsH ((L.setP i (incPr p)).hist v)).length⟩ nilV).hist (2 * v + 1)) = L.hist (2 * v + 1) := by rw [hap_hist _ _ _ _ _ _ (by simp; omega) (by omega), hap_hist _ _ _ _ _ _ (by exact hv) (by omega)]; rfl
      rw [g1, g2, b0, b1]
      have gv : (L.setP i (incPr p)).hist v = L.hist v := rfl
      rw [gv]
      have eS : balS (L.setP i (incPr p)) = balS L := rfl
      rw [eS]
      have z0 : balH ((⟨1, balH (L.hist v) % 2, 0, []⟩, nilV) :: L.hist v) = 0 := by simp [balH, formH]
      have z1 : ∀ its, balH ((⟨2, (balH (L.hist v) + 1) / 2, 0, its⟩, nilV) :: L.hist (2 * v)) = (balH (L.hist v) + 1) / 2 := by intro its; generalize balH (L.hist v) = bb; simp [balH, formH, putsH, fromH, manyH]
      have z2 : ∀ its, balH ((⟨2, balH (L.hist v) / 2, 0, its⟩, nilV) :: L.hist (2 * v + 1)) = balH (L.hist v) / 2 := by intro its; generalize balH (L.hist v) = bb; simp [balH, formH, putsH, fromH, manyH]
      rw [z0, z1, z2]
      omega
    · split
      · exact stay _ _ rfl (by rw [tokP_ch (p := p) hk3, tokP_ch (by show 3 ≤ p.kind; exact hk3)])
      · rename_i hk4 hno
        refine zero _ 1 (incPr p) rfl ?_
        have k3 : p.kind = 3 := by have := hcq.kinds; omega
        have hf : formH (L.hist v) = 1 := by rw [tg.form, if_pos k3]
        obtain ⟨kk1, kk2, kk3⟩ := h.rel.kids v h1v hv hf
        have r0 := (h.rel.nodes (2 * v) (by omega) (by omega)).form
        have r1 := (h.rel.nodes (2 * v + 1) (by omega) hkid).form
        have f0 : formH (L.hist (2 * v)) = 2 := by omega
        have f1 : formH (L.hist (2 * v + 1)) = 2 := by omega
        have bv : balH (L.hist v) = 0 := by unfold balH; rw [hf]; simp
        have hN : foldN ((L.setP i (incPr p))) v = balH (L.hist (2 * v)) + balH (L.hist (2 * v + 1)) := by
          unfold foldN
          show (if L.c.kind = 0 then putsH (L.hist (2 * v)) + putsH (L.hist (2 * v + 1)) else ((alt (itemsH (L.hist (2 * v))) (itemsH (L.hist (2 * v + 1)))).length : Int)) = _
          rw [hcL]
          rcases hcf.1 with k0 | k1
          · rw [if_pos k0, h.bal_count ck tg k0 _ (Or.inr (Or.inl rfl)) f0, h.bal_count ck tg k0 _ (Or.inr (Or.inr rfl)) f1]
          · have htog : balH (L.hist (2 * v)) - balH (L.hist (2 * v + 1)) = togH (L.hist v) := by
              have hl := h.rel.lenle
              have e := ck.ci.even v h1v hv hf
              rw [even_quiet hkid (by omega) h1v ?_ tg.even] at e
              · omega
              · intro w hw w0 w1 hs
                exact leaf_below (by omega) h.v32 h1v ck.ci.par (fun x => x = 2 * v ∨ x = 2 * v + 1) (Or.inr (fun x hx => by omega)) (fun x hx => by rcases hx with e | e <;> rw [e] <;> omega) w hw hs (by omega)
            have ht01 : togH (L.hist v) = 0 ∨ togH (L.hist v) = 1 := by unfold togH; omega
            have q0 := h.bal_pool ck tg k1 _ (Or.inr (Or.inl rfl)) f0
            have q1 := h.bal_pool ck tg k1 _ (Or.inr (Or.inr rfl)) f1
            have ha := (altF_more _ (itemsH (L.hist (2 * v))) (itemsH (L.hist (2 * v + 1))) (Nat.le_refl _) (by omega)).2
            rw [if_neg (by omega)]
            unfold alt
            rw [ha]
            omega
        show balS ((L.setP i (incPr p)).folded v nilV nilV nilV nilV) = balS L
        unfold Lay.folded
        rw [balS_hap _ _ _ _ _ (by simp; omega), balS_hap _ _ _ _ _ (by simp; omega), balS_hap _ _ _ _ _ (by show 2 * v < L.past.length; omega), hN]
        have g1 : (((L.setP i (incPr p)).hap (2 * v) nilV ⟨3, 0, 0, []⟩ nilV).hist (2 * v + 1)) = L.hist (2 * v + 1) := by rw [hap_hist _ _ _ _ _ _ (by show 2 * v < L.past.length; omega) (by omega)]; rfl
        have g2 : ((((L.setP i (incPr p)).hap (2 * v) nilV ⟨3, 0, 0, []⟩ nilV).hap (2 * v + 1) nilV ⟨3, 0, 0, []⟩ nilV).hist v) = L.hist v := by rw [hap_hist _ _ _ _ _ _ (by simp; omega) (by omega), hap_hist _ _ _ _ _ _ (by show 2 * v < L.past.length; omega) (by omega)]; rfl
        rw [g1, g2, bv]
        have gv : (L.setP i (incPr p)).hist (2 * v) = L.hist (2 * v) := rfl
        rw [gv]
        have eS : balS (L.setP i (incPr p)) = balS L := rfl
        rw [eS]
        have z0 : ∀ l : Hist, balH ((⟨3, 0, 0, []⟩, nilV) :: l) = 0 := by intro l; simp [balH, formH]
        have z1 : ∀ its, balH ((⟨2, balH (L.hist (2 * v)) + balH (L.hist (2 * v + 1)), 0, its⟩, nilV) :: L.hist v) = balH (L.hist (2 * v)) + balH (L.hist (2 * v + 1)) := by intro its; generalize balH (L.hist (2 * v)) = bb; generalize balH (L.hist (2 * v + 1)) = cc; simp [balH, formH, putsH, fromH, manyH]
        rw [z0, z0, z1]
        omega
  rw [if_neg e17]
  have hmv : (lmove (L.setP i (incPr p)) v (incPr p) draw).kind = p.kind ∧ tokP L.procs (lmove (L.setP i (incPr p)) v (incPr p) draw) = tokP L.procs p := by
    have lo : ∀ q : Pr, q.kind = p.kind → q.phase ≤ 12 → ¬ (q.phase = 6 ∨ q.phase = 7) → p.phase ≤ 12 → ¬ (p.phase = 6 ∨ p.phase = 7) → tokP L.procs q = tokP L.procs p := by
      intro q a b d e f
      rw [tokP_lo d, tokP_lo f, if_pos b, if_pos e, a]
    have ch : ∀ q : Pr, q.kind = p.kind → 3 ≤ p.kind → tokP L.procs q = tokP L.procs p := by
      intro q a b
      rw [tokP_ch (by omega), tokP_ch b]
    unfold lmove
    have ein : (incPr p).phase = p.phase := rfl
    rw [ein]
    by_cases e0 : p.phase = 0
    · rw [if_pos e0]
      exact ⟨rfl, lo _ rfl (by show (1 : Int) ≤ 12; decide) (by show ¬ ((1 : Int) = 6 ∨ (1 : Int) = 7); decide) (by omega) (by omega)⟩
    rw [if_neg e0]
    by_cases e1 : p.phase = 1
    · rw [if_pos e1]
      split
      · exact ⟨rfl, lo _ rfl (by show (2 : Int) ≤ 12; decide) (by show ¬ ((2 : Int) = 6 ∨ (2 : Int) = 7); decide) (by omega) (by omega)⟩
      · split
        · refine ⟨rfl, lo _ rfl ?_ ?_ (by omega) (by omega)⟩
          · show (if _ then (3 : Int) else 12) ≤ 12
            split <;> decide
          · show ¬ ((if _ then (3 : Int) else 12) = 6 ∨ (if _ then (3 : Int) else 12) = 7)
            split <;> decide
        · rename_i hk3
          have hk3' : 3 ≤ p.kind := Int.not_lt.1 hk3
          split
          · exact ⟨rfl, ch _ rfl hk3'⟩
          · exact ⟨rfl, ch _ rfl hk3'⟩
    rw [if_neg e1]
    by_cases e2 : p.phase = 2
    · rw [if_pos e2]
      exact ⟨rfl, lo _ rfl (by show (0 : Int) ≤ 12; decide) (by show ¬ ((0 : Int) = 6 ∨ (0 : Int) = 7); decide) (by omega) (by omega)⟩
    rw [if_neg e2]
    by_cases e3 : p.phase = 3
    · rw [if_pos e3]
      exact ⟨rfl, lo _ rfl (by show (4 : Int) ≤ 12; decide) (by show ¬ ((4 : Int) = 6 ∨ (4 : Int) = 7); decide) (by omega) (by omega)⟩
    rw [if_neg e3]
    by_cases e4 : p.phase = 4
    · rw [if_pos e4]
      split
      · exact ⟨rfl, lo _ rfl (by show (5 : Int) ≤ 12; decide) (by show ¬ ((5 : Int) = 6 ∨ (5 : Int) = 7); decide) (by omega) (by omega)⟩
      · split
        · split
          · exact ⟨rfl, lo _ rfl (by show (11 : Int) ≤ 12; decide) (by show ¬ ((11 : Int) = 6 ∨ (11 : Int) = 7); decide) (by omega) (by omega)⟩
          · exact ⟨rfl, lo _ rfl (by show (8 : Int) ≤ 12; decide) (by show ¬ ((8 : Int) = 6 ∨ (8 : Int) = 7); decide) (by omega) (by omega)⟩
        · exact ⟨rfl, lo _ rfl (by show p.phase ≤ 12; omega) (by show ¬ (p.phase = 6 ∨ p.phase = 7); omega) (by omega) (by omega)⟩
    rw [if_neg e4]
    by_cases e5 : p.phase = 5
    · rw [if_pos e5]
      split
      · refine ⟨rfl, ?_⟩
        rw [tokP_un (Or.inl rfl) (by show (-1 : Int) < 0; decide), tokP_lo (p := p) (by omega), if_pos (by omega)]
      · exact ⟨rfl, lo _ rfl (by show (9 : Int) ≤ 12; decide) (by show ¬ ((9 : Int) = 6 ∨ (9 : Int) = 7); decide) (by omega) (by omega)⟩
    rw [if_neg e5]
    by_cases e6 : p.phase = 6
    · rw [if_pos e6]
      unfold waitPr
      split
      · rename_i hm
        refine ⟨rfl, ?_⟩
        have e1 : tokP L.procs { incPr p with phase := 7 } = _ := tokP_met (p := { incPr p with phase := 7 }) (Or.inr rfl) hm
        rw [tokP_met (p := p) (Or.inl e6) hm]
        exact e1
      · rename_i hm
        have hm' : p.met < 0 := Int.not_le.1 hm
        split
        · refine ⟨rfl, ?_⟩
          rw [tokP_un (p := p) (Or.inl e6) hm']
          exact tokP_un (p := { incPr p with pat := (incPr p).pat - 1 }) (Or.inl e6) hm'
        · refine ⟨rfl, ?_⟩
          rw [tokP_lo (by show ¬ ((10 : Int) = 6 ∨ (10 : Int) = 7); decide), if_pos (by show (10 : Int) ≤ 12; decide), tokP_un (p := p) (Or.inl e6) hm']
    rw [if_neg e6]
    by_cases e7 : p.phase = 7
    · rw [if_pos e7]
      obtain ⟨k, hk, hs⟩ := h.slotk
      have hf := h.inner (by omega) (by omega)
      have hsr := h.slotRel hf hk
      have hwi : waitP v k (L.procs[i]).2 = true := by
        rw [hep]
        unfold waitP
        simp [ha, hs, e7]
      obtain ⟨b, hb, hbl⟩ : ∃ b : Nat, p.met = (b : Int) ∧ b < L.procs.length := by
        rcases hsr with ⟨_, x⟩ | ⟨j, hj, _, _, x3, x4⟩
        · rw [x i hi] at hwi
          exact absurd hwi (by decide)
        · have eij := x3 i hi hwi
          subst eij
          rw [hep] at x4
          rcases x4 with x4 | ⟨_, b, _, x5, x6, _⟩
          · omega
          · exact ⟨b, x5, x6⟩
      have hkat : kindAt L.procs p.met = (L.procs[b]).2.kind := by unfold kindAt; rw [hb]; simp [hbl]
      have tp : tokP L.procs p = if (L.procs[b]).2.kind = p.kind then sgn p.kind else 0 := by rw [tokP_met (p := p) (Or.inr e7) (by omega), hkat]
      have eM : ∃ y, (L.setP i (incPr p)).procs[(incPr p).met.toNat]? = some y ∧ y.2.kind = (L.procs[b]).2.kind := by
        have em : (incPr p).met.toNat = b := by show p.met.toNat = b; omega
        rw [em]
        by_cases eb : b = i
        · subst eb
          refine ⟨((L.procs.getD b (0, incPr p)).1, incPr p), ?_, ?_⟩
          · show (L.procs.set b _)[b]? = _
            rw [List.getElem?_set_self hi]
          · show p.kind = _
            rw [hep]
        · refine ⟨L.procs[b], ?_, rfl⟩
          show (L.procs.set i _)[b]? = _
          rw [List.getElem?_set_ne (Ne.symm eb), List.getElem?_eq_getElem hbl]
      obtain ⟨y, ey, ky⟩ := eM
      rw [ey]
      simp only
      unfold settledPr
      by_cases e : p.kind = y.2.kind
      · rw [if_pos (show ({ incPr p with met := -1 } : Pr).kind = y.2.kind from e)]
        refine ⟨rfl, ?_⟩
        rw [tp, ← ky, if_pos e.symm, tokP_lo (by show ¬ ((0 : Int) = 6 ∨ (0 : Int) = 7); decide), if_pos (by show (0 : Int) ≤ 12; decide)]
      · rw [if_neg (show ¬ ({ incPr p with met := -1 } : Pr).kind = y.2.kind from e)]
        rw [tp, ← ky, if_neg (Ne.symm e)]
        split
        · exact ⟨rfl, by rw [tokP_lo (by show ¬ ((19 : Int) = 6 ∨ (19 : Int) = 7); decide), if_neg (by show ¬ (19 : Int) ≤ 12; decide)]⟩
        · exact ⟨rfl, by rw [tokP_lo (by show ¬ ((19 : Int) = 6 ∨ (19 : Int) = 7); decide), if_neg (by show ¬ (19 : Int) ≤ 12; decide)]⟩
    rw [if_neg e7]
    by_cases e15 : p.phase = 15
    · have hk3 : 3 ≤ p.kind := Int.not_lt.1 fun x => hkp.walk x (by omega)
      rw [if_pos e15]
      have : (shutCh (L.setP i (incPr p)) v (incPr p)).kind = p.kind := by unfold shutCh; split <;> rfl
      exact ⟨this, ch _ this hk3⟩
    rw [if_neg e15]
    by_cases e16 : p.phase = 16
    · have hk3 : 3 ≤ p.kind := Int.not_lt.1 fun x => hkp.walk x (by omega)
      rw [if_pos e16]
      have : (drainCh (L.setP i (incPr p)) v (incPr p)).kind = p.kind := by unfold drainCh; split; rfl; split <;> rfl
      exact ⟨this, ch _ this hk3⟩
    rw [if_neg e16]
    by_cases e18 : p.phase = 18
    · have hk3 : 3 ≤ p.kind := Int.not_lt.1 fun x => hkp.walk x (by omega)
      rw [if_pos e18]
      exact ⟨rfl, ch _ rfl hk3⟩
    rw [if_neg e18]
    by_cases e19 : p.phase = 19
    · rw [if_pos e19]
      refine ⟨rfl, ?_⟩
      have hup : (upPr (incPr p)).phase = 19 ∨ (upPr (incPr p)).phase = 20 := by
        unfold upPr
        simp only
        split
        · exact Or.inr rfl
        · exact Or.inl rfl
      rw [tokP_lo (p := upPr (incPr p)) (by omega), if_neg (by omega), tokP_lo (p := p) (by omega), if_neg (by omega)]
    omega
  exact stay _ _ hmv.1 hmv.2
end

end Go.Proofs.Ytjnmpejcegmkhaa
