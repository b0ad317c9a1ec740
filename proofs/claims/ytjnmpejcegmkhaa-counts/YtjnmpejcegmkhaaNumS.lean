/- What has gone in lies in the leaves, or is on its way (the document's tree alone). No statement of the seat is proved here. What holds of the document's tree through every play of a hand. No statement of the seat is proved here. A step of a hand, and what it may change. No statement of the seat is proved here. What is asked of a hand, of the document's tree beside it. No statement of the seat is proved here. Rounds of a hand (P15): what a step of a round does. No statement of the seat is proved here. A still tree is even (P12), of the document's tree alone. No statement of the seat is proved here. The numbers that a counter has handed out (P13), of the document's tree alone. No statement of the seat is proved here. Whom a waiting process of a counter was met by (the document's tree alone). No statement of the seat is proved here. When an Inc of a counter ends (the document's tree alone). No statement of the seat is proved here. The numbers that a counter has handed out, through Folds and Unfolds (the document's tree alone). No statement of the seat is proved here. No number of a counter is too great (the document's tree alone). No statement of the seat is proved here. -/
import Derived.Test.YtjnmpejcegmkhaaWorkA
namespace Go.Proofs.Ytjnmpejcegmkhaa
open Go.RowKit

def balS (L : Lay) : Int := sumN (fun w => balH (L.hist w)) L.past.length
def TotOk (L : Lay) : Prop := balS L + sumP (tokP L.procs) L.procs = sumP (fun p => sgn p.kind) L.procs

theorem tokP_lo {ps : Ps} {p : Pr} (h : ¬ (p.phase = 6 ∨ p.phase = 7)) : tokP ps p = if p.phase ≤ 12 then sgn p.kind else 0 := by
  have : metB p = false := by
    unfold metB
    have h6 : ¬ p.phase = 6 := fun x => h (Or.inl x)
    have h7 : ¬ p.phase = 7 := fun x => h (Or.inr x)
    simp [h6, h7]
  unfold tokP
  rw [this]
  simp
theorem tokP_ch {ps : Ps} {p : Pr} (h : 3 ≤ p.kind) : tokP ps p = 0 := by
  have : sgn p.kind = 0 := by unfold sgn; rw [if_neg (by omega), if_neg (by omega)]
  unfold tokP
  rw [this]
  split <;> simp
theorem tokP_un {ps : Ps} {p : Pr} (h : p.phase = 6 ∨ p.phase = 7) (hm : p.met < 0) : tokP ps p = sgn p.kind := by
  have : metB p = false := by
    unfold metB
    have : ¬ 0 ≤ p.met := by omega
    simp [this]
  unfold tokP
  rw [this, if_pos (by omega)]
  simp
theorem tokP_met {ps : Ps} {p : Pr} (h : p.phase = 6 ∨ p.phase = 7) (hm : 0 ≤ p.met) : tokP ps p = if kindAt ps p.met = p.kind then sgn p.kind else 0 := by
  have : metB p = true := by
    unfold metB
    rcases h with x | x <;> simp [x, hm]
  unfold tokP
  rw [this, if_pos (by omega)]
  by_cases e : kindAt ps p.met = p.kind <;> simp [e]

theorem tok_set {ps : Ps} {i : Nat} (hi : i < ps.length) {x : Nat × Pr} (hk : x.2.kind = (ps[i]).2.kind) : tokP (ps.set i x) = tokP ps := by
  funext p
  unfold tokP
  rw [kindAt_set hi hk]
theorem sgn_set {ps : Ps} {i : Nat} (hi : i < ps.length) {x : Nat × Pr} (hk : x.2.kind = (ps[i]).2.kind) : sumP (fun p => sgn p.kind) (ps.set i x) = sumP (fun p => sgn p.kind) ps := by
  rw [sumP_set _ _ _ hi, hk]
  omega

theorem tot_one {L L' : Lay} (h : TotOk L) {i : Nat} (hi : i < L.procs.length) {pb : Nat} {p' : Pr} (hp : L'.procs = L.procs.set i (pb, p')) (hk : p'.kind = (L.procs[i]).2.kind) (hs : balS L' = balS L + (tokP L.procs (L.procs[i]).2 - tokP L.procs p')) : TotOk L' := by
  unfold TotOk at h ⊢
  rw [hp, tok_set hi hk, sgn_set hi hk, sumP_set _ _ _ hi]
  simp only
  omega

theorem balS_hap (L : Lay) (v : Nat) (x : Value) (ev : Ev) (iv : Value) (hv : v < L.past.length) : balS (L.hap v x ev iv) = balS L + (balH ((ev, iv) :: L.hist v) - balH (L.hist v)) := by
  unfold balS
  rw [hap_len]
  have := sumN_upd (fun w => balH (L.hist w)) (fun w => balH ((L.hap v x ev iv).hist w)) v L.past.length hv (fun k _ hne => by rw [hist_hap L v k x ev iv hv, if_neg hne])
  rw [this, hist_hap L v v x ev iv hv, if_pos rfl]
  omega

section
variable {c : Conf} {L : Lay} {P : PLay} {i v : Nat} {p : Pr} {n : PN}

theorem Here.tot (h : Here c L P i v p n) (ck : CK c L P) (draw : Int) (ht : TotOk L) : TotOk (lstep L i draw) := by
  have hi := h.hi
  have hep := h.ep
  have hv := h.vN
  have ha := h.at'
  have hph := h.q.phase
  have hlive := h.live
  have hcq := ck.ci.cq i hi
  rw [hep] at hcq
  have hkp := hcq.kp
  have stay : ∀ q p' : Pr, p'.kind = p.kind → tokP L.procs p' = tokP L.procs p → TotOk ((L.setP i q).setP i p') := by
    intro q p' e1 e2
    refine tot_one ht hi (pb := (L.procs.getD i (0, q)).1) (p' := p') ?_ (by rw [hep]; exact e1) ?_
    · show (L.procs.set i _).set i _ = _
      rw [List.set_set]
      congr 2
      simp [List.getD_eq_getElem?_getD, hi]
    · rw [hep, e2]
      show balS L = _
      omega
  have one : ∀ q p' : Pr, p'.kind = p.kind → tokP L.procs p' = tokP L.procs p → TotOk (L.setP i p') := by
    intro q p' e1 e2
    refine tot_one ht hi (pb := (L.procs.getD i (0, p')).1) (p' := p') rfl (by rw [hep]; exact e1) ?_
    rw [hep, e2]
    show balS L = _
    omega
  have happ : ∀ (q p' : Pr) (ev : Ev), p'.kind = p.kind → balH ((ev, nilV) :: L.hist v) - balH (L.hist v) = tokP L.procs p - tokP L.procs p' → TotOk (((L.setP i q).hap v nilV ev nilV).setP i p') := by
    intro q p' ev e1 e2
    refine tot_one ht hi (pb := (L.procs.getD i (0, q)).1) (p' := p') ?_ (by rw [hep]; exact e1) ?_
    · show (L.procs.set i _).set i _ = _
      rw [List.set_set]
      congr 2
      simp [List.getD_eq_getElem?_getD, hi]
    · rw [hep, ← e2]
      have := balS_hap (L.setP i q) v nilV ev nilV hv
      exact this
  rw [h.lat draw, h.lget]
  simp only
  by_cases e8 : p.phase = 8
  · rw [if_pos e8]
    obtain ⟨j, hm, hj, hji⟩ := h.q.mind e8
    have ej : p.mind.toNat = j := by omega
    rw [ej, List.getElem?_eq_getElem hj]
    simp only
    have tp : tokP L.procs p = sgn p.kind := by rw [tokP_lo (p := p) (by omega), if_pos (by omega)]
    split
    · rename_i hme
      unfold meets at hme
      simp only [Bool.and_eq_true, decide_eq_true_eq] at hme
      obtain ⟨⟨_, y6⟩, ymet⟩ := hme
      have hqj := (h.rel.qs j hj).kind
      have hqi := h.q.kind
      have hkj := (ck.ci.cq j hj).kp
      obtain ⟨y, hy⟩ : ∃ y, (L.procs[j]).2 = y := ⟨_, rfl⟩
      rw [hy] at y6 ymet hqj hkj ⊢
      have kp3 : p.kind < 3 := Int.not_le.1 fun x => by have := hkp.chg x; omega
      have kj3 : y.kind < 3 := Int.not_le.1 fun x => by have := hkj.chg x; omega
      have ty : tokP L.procs y = sgn y.kind := tokP_un (Or.inl y6) ymet
      have kat : kindAt L.procs (i : Int) = p.kind := by
        unfold kindAt
        simp [hi, hep]
      obtain ⟨y', hy'⟩ : ∃ y' : Pr, y' = { y with met := (i : Int) } := ⟨_, rfl⟩
      have ky' : y'.kind = y.kind := by rw [hy']
      have ty' : tokP L.procs y' = if p.kind = y.kind then sgn y.kind else 0 := by
        rw [tokP_met (p := y') (Or.inl (by rw [hy']; exact y6)) (by rw [hy']; show (0 : Int) ≤ (i : Int); omega), ky']
        have : y'.met = (i : Int) := by rw [hy']
        rw [this, kat]
      rw [← hy']
      have ts : tokP L.procs (settledPr (incPr p) y 1) = if p.kind = y.kind then sgn p.kind else 0 := by
        unfold settledPr
        by_cases e : p.kind = y.kind
        · rw [if_pos (show (incPr p).kind = y.kind from e), if_pos e, tokP_lo (by show ¬ ((0 : Int) = 6 ∨ (0 : Int) = 7); decide), if_pos (by show (0 : Int) ≤ 12; decide)]
        · rw [if_neg (show ¬ (incPr p).kind = y.kind from e), if_neg e]
          split
          · rw [tokP_lo (by show ¬ ((19 : Int) = 6 ∨ (19 : Int) = 7); decide), if_neg (by show ¬ (19 : Int) ≤ 12; decide)]
          · rw [tokP_lo (by show ¬ ((19 : Int) = 6 ∨ (19 : Int) = 7); decide), if_neg (by show ¬ (19 : Int) ≤ 12; decide)]
      have ks : (settledPr (incPr p) y 1).kind = p.kind := by
        unfold settledPr
        split
        · rfl
        · split <;> rfl
      have hbal : tokP L.procs y' + tokP L.procs (settledPr (incPr p) y 1) = tokP L.procs y + tokP L.procs p := by
        rw [ty', ts, ty, tp]
        by_cases e : p.kind = y.kind
        · rw [if_pos e, if_pos e]
        · rw [if_neg e, if_neg e]
          have : (p.kind = 1 ∧ y.kind = 2) ∨ (p.kind = 2 ∧ y.kind = 1) := by omega
          rcases this with ⟨a, b⟩ | ⟨a, b⟩ <;> rw [a, b] <;> rfl
      generalize settledPr (incPr p) y 1 = p' at *
      obtain ⟨a, b, eproc⟩ : ∃ a b, (((L.setP i (incPr p)).setP j y').setP i p').procs = (L.procs.set j (a, y')).set i (b, p') := by
        have e3 : ∀ x0 x1 x2 : Nat × Pr, ((L.procs.set i x0).set j x1).set i x2 = (L.procs.set j x1).set i x2 := by
          intro x0 x1 x2
          rw [List.set_comm _ _ (Ne.symm hji), List.set_set]
        exact ⟨_, _, e3 _ (_, y') (_, p')⟩
      unfold TotOk at ht ⊢
      have eb : balS (((L.setP i (incPr p)).setP j y').setP i p') = balS L := rfl
      rw [eproc, eb]
      have hij : i < (L.procs.set j (a, y')).length := by simpa using hi
      have egi : ((L.procs.set j (a, y'))[i]).2 = p := by rw [List.getElem_set_ne hji]; exact hep
      have kk1 : (b, p').2.kind = ((L.procs.set j (a, y'))[i]).2.kind := by rw [egi]; exact ks
      have kk2 : (a, y').2.kind = (L.procs[j]).2.kind := by rw [hy]; exact ky'
      rw [tok_set hij kk1, sgn_set hij kk1, tok_set hj kk2, sgn_set hj kk2, sumP_set _ _ _ hij, sumP_set _ _ _ hj, egi, hy]
      simp only
      omega
    · refine stay _ _ rfl ?_
      rw [tp, tokP_lo (by show ¬ ((9 : Int) = 6 ∨ (9 : Int) = 7); decide), if_pos (by show (9 : Int) ≤ 12; decide)]
  rw [if_neg e8]
  by_cases e9 : p.phase = 9
  · rw [if_pos e9]
    refine happ _ _ _ rfl ?_
    rw [(bal_over (L.hist v) ⟨5, _, 0, []⟩ nilV (by show (3 : Int) < 5; decide) (by show (5 : Int) ≠ 6; decide) (by show (5 : Int) ≠ 7; decide)).1, tokP_lo (p := p) (by omega), tokP_lo (by show ¬ ((11 : Int) = 6 ∨ (11 : Int) = 7); decide), if_pos (by omega), if_pos (by show (11 : Int) ≤ 12; decide)]
    show balH (L.hist v) - balH (L.hist v) = sgn p.kind - sgn p.kind
    omega
  rw [if_neg e9]
  by_cases e10 : p.phase = 10
  · rw [if_pos e10]
    refine happ _ _ _ rfl ?_
    rw [(bal_over (L.hist v) ⟨5, _, 0, []⟩ nilV (by show (3 : Int) < 5; decide) (by show (5 : Int) ≠ 6; decide) (by show (5 : Int) ≠ 7; decide)).1, tokP_lo (p := p) (by omega), tokP_lo (by show ¬ ((11 : Int) = 6 ∨ (11 : Int) = 7); decide), if_pos (by omega), if_pos (by show (11 : Int) ≤ 12; decide)]
    show balH (L.hist v) - balH (L.hist v) = sgn p.kind - sgn p.kind
    omega
  rw [if_neg e10]
  by_cases e11 : p.phase = 11
  · rw [if_pos e11]
    refine happ _ _ _ rfl ?_
    rw [(bal_over (L.hist v) ⟨4, 0, 0, []⟩ nilV (by show (3 : Int) < 4; decide) (by show (4 : Int) ≠ 6; decide) (by show (4 : Int) ≠ 7; decide)).1, tokP_lo (p := p) (by omega), tokP_lo (by show ¬ ((0 : Int) = 6 ∨ (0 : Int) = 7); decide), if_pos (by omega), if_pos (by show (0 : Int) ≤ 12; decide)]
    show balH (L.hist v) - balH (L.hist v) = sgn p.kind - sgn p.kind
    omega
  rw [if_neg e11]
  by_cases e12 : p.phase = 12
  · rw [if_pos e12]
    have hf := h.isLeaf (by omega) (by omega)
    have hb6 : balH ((⟨6, 0, 0, []⟩, nilV) :: L.hist v) - balH (L.hist v) = 1 := by
      unfold balH putsH
      simp [formH, fromH, manyH, hf]
      omega
    have hb7 : balH ((⟨7, 0, 0, []⟩, nilV) :: L.hist v) - balH (L.hist v) = -1 := by
      unfold balH putsH
      simp [formH, fromH, manyH, hf]
      omega
    have hk3 : p.kind < 3 := Int.not_le.1 fun x => by have := hkp.chg x; omega
    have hk0 := hcq.kinds
    have tp : tokP L.procs p = sgn p.kind := by rw [tokP_lo (p := p) (by omega), if_pos (by omega)]
    split
    · rename_i hk
      refine happ _ _ _ rfl ?_
      rw [hb6, tp, tokP_lo (by show ¬ ((19 : Int) = 6 ∨ (19 : Int) = 7); decide), if_neg (by show ¬ (19 : Int) ≤ 12; decide), hk]
      rfl
    · split
      · rename_i hk
        refine happ _ _ _ rfl ?_
        rw [hb6, tp, tokP_lo (by show ¬ ((13 : Int) = 6 ∨ (13 : Int) = 7); decide), if_neg (by show ¬ (13 : Int) ≤ 12; decide), hk]
        rfl
      · refine happ _ _ _ rfl ?_
        rw [hb7, tp, tokP_lo (by show ¬ ((14 : Int) = 6 ∨ (14 : Int) = 7); decide), if_neg (by show ¬ (14 : Int) ≤ 12; decide), show p.kind = 2 by omega]
        rfl
  rw [if_neg e12]
  by_cases e13 : p.phase = 13
  · rw [if_pos e13]
    split
    · refine happ _ _ _ rfl ?_
      rw [(bal_over (L.hist v) ⟨8, _, _, []⟩ nilV (by show (3 : Int) < 8; decide) (by show (8 : Int) ≠ 6; decide) (by show (8 : Int) ≠ 7; decide)).1, tokP_lo (p := p) (by omega), tokP_lo (by show ¬ ((19 : Int) = 6 ∨ (19 : Int) = 7); decide), if_neg (by omega), if_neg (by show ¬ (19 : Int) ≤ 12; decide)]
      omega
    · refine one p _ rfl ?_
      rw [tokP_lo (p := p) (by omega), tokP_lo (by show ¬ (p.phase = 6 ∨ p.phase = 7); omega)]
  rw [if_neg e13]
  by_cases e14 : p.phase = 14
  · rw [if_pos e14]
    split
    · refine happ _ _ _ rfl ?_
      rw [(bal_over (L.hist v) ⟨9, _, 0, []⟩ nilV (by show (3 : Int) < 9; decide) (by show (9 : Int) ≠ 6; decide) (by show (9 : Int) ≠ 7; decide)).1, tokP_lo (p := p) (by omega), tokP_lo (by show ¬ ((19 : Int) = 6 ∨ (19 : Int) = 7); decide), if_neg (by omega), if_neg (by show ¬ (19 : Int) ≤ 12; decide)]
      omega
    · refine one p _ rfl ?_
      rw [tokP_lo (p := p) (by omega), tokP_lo (by show ¬ (p.phase = 6 ∨ p.phase = 7); omega)]
  rw [if_neg e14]
  by_cases e17 : p.phase = 17
  · rw [if_pos e17]
    have tg := h.target17 ck e17
    have hkid := tg.kid
    have h1v := h.v1
    have hk3 : 3 ≤ p.kind := Int.not_lt.1 fun x => hkp.walk x (by omega)
    have upk : ∀ q : Pr, (upPr q).kind = q.kind := fun q => rfl
    have hcf := h.rel.confs
    have hcL := h.rel.cL
    have zero : ∀ (L' : Lay) (r : Int) (q : Pr), L'.procs = ((L.setP i q).setP i (upPr { incPr p with val := r })).procs → balS L' = balS L → TotOk L' := by
      intro L' r q e1 e2
      refine tot_one ht hi (pb := (L.procs.getD i (0, q)).1) (p' := upPr { incPr p with val := r }) ?_ (by rw [hep]; rfl) ?_
      · rw [e1]
        show (L.procs.set i _).set i _ = _
        rw [List.set_set]
        congr 2
        simp [List.getD_eq_getElem?_getD, hi]
      · rw [hep, e2, tokP_ch (p := p) hk3, tokP_ch (by show 3 ≤ p.kind; exact hk3)]
        omega
    split
    · rename_i hk4
      refine zero _ 1 (incPr p) rfl ?_
      have hf : formH (L.hist v) = 2 := by rw [tg.form, if_neg (by omega)]
      have hno : ∀ w, w / 2 = v → 2 ≤ w → w < L.past.length → formH (L.hist w) = 3 := by
        intro w hw h2 hwN
        by_cases f : formH (L.hist w) = 3
        · exact f
        · have := ck.ci.par w h2 hwN f
          rw [hw] at this
          omega
      have f0 := hno (2 * v) (by omega) (by omega) (by omega)
      have f1 := hno (2 * v + 1) (by omega) (by omega) hkid
      have b0 : balH (L.hist (2 * v)) = 0 := by unfold balH; rw [f0]; simp
      have b1 : balH (L.hist (2 * v + 1)) = 0 := by unfold balH; rw [f1]; simp
      have hN : unfN (L.setP i (incPr p)) v = balH (L.hist v) := by
        unfold unfN
        show (if L.c.kind = 0 then putsH (L.hist v) else ((itemsH (L.hist v)).length : Int)) = _
        rw [hcL]
        rcases hcf.1 with k0 | k1
        · rw [if_pos k0]; exact h.bal_count ck tg k0 v (Or.inl rfl) hf
        · rw [if_neg (by omega)]; exact h.bal_pool ck tg k1 v (Or.inl rfl) hf
      show balS ((L.setP i (incPr p)).unfolded v nilV nilV nilV nilV nilV) = balS L
      unfold Lay.unfolded
      rw [balS_hap _ _ _ _ _ (by simp; omega), balS_hap _ _ _ _ _ (by simp; omega), balS_hap _ _ _ _ _ (by exact hv), hN]
      have g1 : (((L.setP i (incPr p)).hap v nilV ⟨1, balH (L.hist v) % 2, 0, []⟩ nilV).hist (2 * v)) = L.hist (2 * v) := by rw [hap_hist _ _ _ _ _ _ (by exact hv) (by omega)]; rfl
      have g2 : ((((L.setP i (incPr p)).hap v nilV ⟨1, balH (L.hist v) % 2, 0, []⟩ nilV).hap (2 * v) nilV ⟨2, (balH (L.hist v) + 1) / 2, 0, evT (itemsH ((L.setP i (incPr p)).hist v)) (itemsH ((L.setP i (incPr p)).hist v)).length⟩ nilV).hist (2 * v + 1)) = L.hist (2 * v + 1) := by rw [hap_hist _ _ _ _ _ _ (by simp; omega) (by omega), hap_hist _ _ _ _ _ _ (by exact hv) (by omega)]; rfl
      rw [g1, g2, b0, b1]
      have gv : (L.setP i (incPr p)).hist v = L.hist v := rfl
      rw [gv]
      have eS : balS (L.setP i (incPr p)) = balS L := rfl
      rw [eS]
      have z0 : balH ((⟨1, balH (L.hist v) % 2, 0, []⟩, nilV) :: L.hist v) = 0 := by simp [balH, formH]
      have z1 : ∀ its, balH ((⟨2, (balH (L.hist v) + 1) / 2, 0, its⟩, nilV) :: L.hist (2 * v)) = (balH (L.hist v) + 1) / 2 := by intro its; generalize balH (L.hist v) = bb; simp [balH, formH, putsH, fromH, manyH]
      have z2 : ∀ its, balH ((⟨2, balH (L.hist v) / 2, 0, its⟩, nilV) :: L.hist (2 * v + 1)) = balH (L.hist v) / 2 := by intro its; generalize balH (L.hist v) = bb; simp [balH, formH, putsH, fromH, manyH]
      rw [z0, z1, z2]
      omega
    · split
      · exact stay _ _ rfl (by rw [tokP_ch (p := p) hk3, tokP_ch (by show 3 ≤ p.kind; exact hk3)])
      · rename_i hk4 hno
        refine zero _ 1 (incPr p) rfl ?_
        have k3 : p.kind = 3 := by have := hcq.kinds; omega
        have hf : formH (L.hist v) = 1 := by rw [tg.form, if_pos k3]
        obtain ⟨kk1, kk2, kk3⟩ := h.rel.kids v h1v hv hf
        have r0 := (h.rel.nodes (2 * v) (by omega) (by omega)).form
        have r1 := (h.rel.nodes (2 * v + 1) (by omega) hkid).form
        have f0 : formH (L.hist (2 * v)) = 2 := by omega
        have f1 : formH (L.hist (2 * v + 1)) = 2 := by omega
        have bv : balH (L.hist v) = 0 := by unfold balH; rw [hf]; simp
        have hN : foldN ((L.setP i (incPr p))) v = balH (L.hist (2 * v)) + balH (L.hist (2 * v + 1)) := by
          unfold foldN
          show (if L.c.kind = 0 then putsH (L.hist (2 * v)) + putsH (L.hist (2 * v + 1)) else ((alt (itemsH (L.hist (2 * v))) (itemsH (L.hist (2 * v + 1)))).length : Int)) = _
          rw [hcL]
          rcases hcf.1 with k0 | k1
          · rw [if_pos k0, h.bal_count ck tg k0 _ (Or.inr (Or.inl rfl)) f0, h.bal_count ck tg k0 _ (Or.inr (Or.inr rfl)) f1]
          · have htog : balH (L.hist (2 * v)) - balH (L.hist (2 * v + 1)) = togH (L.hist v) := by
              have hl := h.rel.lenle
              have e := ck.ci.even v h1v hv hf
              rw [even_quiet hkid (by omega) h1v ?_ tg.even] at e
              · omega
              · intro w hw w0 w1 hs
                exact leaf_below (by omega) h.v32 h1v ck.ci.par (fun x => x = 2 * v ∨ x = 2 * v + 1) (Or.inr (fun x hx => by omega)) (fun x hx => by rcases hx with e | e <;> rw [e] <;> omega) w hw hs (by omega)
            have ht01 : togH (L.hist v) = 0 ∨ togH (L.hist v) = 1 := by unfold togH; omega
            have q0 := h.bal_pool ck tg k1 _ (Or.inr (Or.inl rfl)) f0
            have q1 := h.bal_pool ck tg k1 _ (Or.inr (Or.inr rfl)) f1
            have ha := (altF_more _ (itemsH (L.hist (2 * v))) (itemsH (L.hist (2 * v + 1))) (Nat.le_refl _) (by omega)).2
            rw [if_neg (by omega)]
            unfold alt
            rw [ha]
            omega
        show balS ((L.setP i (incPr p)).folded v nilV nilV nilV nilV) = balS L
        unfold Lay.folded
        rw [balS_hap _ _ _ _ _ (by simp; omega), balS_hap _ _ _ _ _ (by simp; omega), balS_hap _ _ _ _ _ (by show 2 * v < L.past.length; omega), hN]
        have g1 : (((L.setP i (incPr p)).hap (2 * v) nilV ⟨3, 0, 0, []⟩ nilV).hist (2 * v + 1)) = L.hist (2 * v + 1) := by rw [hap_hist _ _ _ _ _ _ (by show 2 * v < L.past.length; omega) (by omega)]; rfl
        have g2 : ((((L.setP i (incPr p)).hap (2 * v) nilV ⟨3, 0, 0, []⟩ nilV).hap (2 * v + 1) nilV ⟨3, 0, 0, []⟩ nilV).hist v) = L.hist v := by rw [hap_hist _ _ _ _ _ _ (by simp; omega) (by omega), hap_hist _ _ _ _ _ _ (by show 2 * v < L.past.length; omega) (by omega)]; rfl
        rw [g1, g2, bv]
        have gv : (L.setP i (incPr p)).hist (2 * v) = L.hist (2 * v) := rfl
        rw [gv]
        have eS : balS (L.setP i (incPr p)) = balS L := rfl
        rw [eS]
        have z0 : ∀ l : Hist, balH ((⟨3, 0, 0, []⟩, nilV) :: l) = 0 := by intro l; simp [balH, formH]
        have z1 : ∀ its, balH ((⟨2, balH (L.hist (2 * v)) + balH (L.hist (2 * v + 1)), 0, its⟩, nilV) :: L.hist v) = balH (L.hist (2 * v)) + balH (L.hist (2 * v + 1)) := by intro its; generalize balH (L.hist (2 * v)) = bb; generalize balH (L.hist (2 * v + 1)) = cc; simp [balH, formH, putsH, fromH, manyH]
        rw [z0, z0, z1]
        omega
  rw [if_neg e17]
  have hmv : (lmove (L.setP i (incPr p)) v (incPr p) draw).kind = p.kind ∧ tokP L.procs (lmove (L.setP i (incPr p)) v (incPr p) draw) = tokP L.procs p := by
    have lo : ∀ q : Pr, q.kind = p.kind → q.phase ≤ 12 → ¬ (q.phase = 6 ∨ q.phase = 7) → p.phase ≤ 12 → ¬ (p.phase = 6 ∨ p.phase = 7) → tokP L.procs q = tokP L.procs p := by
      intro q a b d e f
      rw [tokP_lo d, tokP_lo f, if_pos b, if_pos e, a]
    have ch : ∀ q : Pr, q.kind = p.kind → 3 ≤ p.kind → tokP L.procs q = tokP L.procs p := by
      intro q a b
      rw [tokP_ch (by omega), tokP_ch b]
    unfold lmove
    have ein : (incPr p).phase = p.phase := rfl
    rw [ein]
    by_cases e0 : p.phase = 0
    · rw [if_pos e0]
      exact ⟨rfl, lo _ rfl (by show (1 : Int) ≤ 12; decide) (by show ¬ ((1 : Int) = 6 ∨ (1 : Int) = 7); decide) (by omega) (by omega)⟩
    rw [if_neg e0]
    by_cases e1 : p.phase = 1
    · rw [if_pos e1]
      split
      · exact ⟨rfl, lo _ rfl (by show (2 : Int) ≤ 12; decide) (by show ¬ ((2 : Int) = 6 ∨ (2 : Int) = 7); decide) (by omega) (by omega)⟩
      · split
        · refine ⟨rfl, lo _ rfl ?_ ?_ (by omega) (by omega)⟩
          · show (if _ then (3 : Int) else 12) ≤ 12
            split <;> decide
          · show ¬ ((if _ then (3 : Int) else 12) = 6 ∨ (if _ then (3 : Int) else 12) = 7)
            split <;> decide
        · rename_i hk3
          have hk3' : 3 ≤ p.kind := Int.not_lt.1 hk3
          split
          · exact ⟨rfl, ch _ rfl hk3'⟩
          · exact ⟨rfl, ch _ rfl hk3'⟩
    rw [if_neg e1]
    by_cases e2 : p.phase = 2
    · rw [if_pos e2]
      exact ⟨rfl, lo _ rfl (by show (0 : Int) ≤ 12; decide) (by show ¬ ((0 : Int) = 6 ∨ (0 : Int) = 7); decide) (by omega) (by omega)⟩
    rw [if_neg e2]
    by_cases e3 : p.phase = 3
    · rw [if_pos e3]
      exact ⟨rfl, lo _ rfl (by show (4 : Int) ≤ 12; decide) (by show ¬ ((4 : Int) = 6 ∨ (4 : Int) = 7); decide) (by omega) (by omega)⟩
    rw [if_neg e3]
    by_cases e4 : p.phase = 4
    · rw [if_pos e4]
      split
      · exact ⟨rfl, lo _ rfl (by show (5 : Int) ≤ 12; decide) (by show ¬ ((5 : Int) = 6 ∨ (5 : Int) = 7); decide) (by omega) (by omega)⟩
      · split
        · split
          · exact ⟨rfl, lo _ rfl (by show (11 : Int) ≤ 12; decide) (by show ¬ ((11 : Int) = 6 ∨ (11 : Int) = 7); decide) (by omega) (by omega)⟩
          · exact ⟨rfl, lo _ rfl (by show (8 : Int) ≤ 12; decide) (by show ¬ ((8 : Int) = 6 ∨ (8 : Int) = 7); decide) (by omega) (by omega)⟩
        · exact ⟨rfl, lo _ rfl (by show p.phase ≤ 12; omega) (by show ¬ (p.phase = 6 ∨ p.phase = 7); omega) (by omega) (by omega)⟩
    rw [if_neg e4]
    by_cases e5 : p.phase = 5
    · rw [if_pos e5]
      split
      · refine ⟨rfl, ?_⟩
        rw [tokP_un (Or.inl rfl) (by show (-1 : Int) < 0; decide), tokP_lo (p := p) (by omega), if_pos (by omega)]
      · exact ⟨rfl, lo _ rfl (by show (9 : Int) ≤ 12; decide) (by show ¬ ((9 : Int) = 6 ∨ (9 : Int) = 7); decide) (by omega) (by omega)⟩
    rw [if_neg e5]
    by_cases e6 : p.phase = 6
    · rw [if_pos e6]
      unfold waitPr
      split
      · rename_i hm
        refine ⟨rfl, ?_⟩
        have e1 : tokP L.procs { incPr p with phase := 7 } = _ := tokP_met (p := { incPr p with phase := 7 }) (Or.inr rfl) hm
        rw [tokP_met (p := p) (Or.inl e6) hm]
        exact e1
      · rename_i hm
        have hm' : p.met < 0 := Int.not_le.1 hm
        split
        · refine ⟨rfl, ?_⟩
          rw [tokP_un (p := p) (Or.inl e6) hm']
          exact tokP_un (p := { incPr p with pat := (incPr p).pat - 1 }) (Or.inl e6) hm'
        · refine ⟨rfl, ?_⟩
          rw [tokP_lo (by show ¬ ((10 : Int) = 6 ∨ (10 : Int) = 7); decide), if_pos (by show (10 : Int) ≤ 12; decide), tokP_un (p := p) (Or.inl e6) hm']
    rw [if_neg e6]
    by_cases e7 : p.phase = 7
    · rw [if_pos e7]
      obtain ⟨k, hk, hs⟩ := h.slotk
      have hf := h.inner (by omega) (by omega)
      have hsr := h.slotRel hf hk
      have hwi : waitP v k (L.procs[i]).2 = true := by
        rw [hep]
        unfold waitP
        simp [ha, hs, e7]
      obtain ⟨b, hb, hbl⟩ : ∃ b : Nat, p.met = (b : Int) ∧ b < L.procs.length := by
        rcases hsr with ⟨_, x⟩ | ⟨j, hj, _, _, x3, x4⟩
        · rw [x i hi] at hwi
          exact absurd hwi (by decide)
        · have eij := x3 i hi hwi
          subst eij
          rw [hep] at x4
          rcases x4 with x4 | ⟨_, b, _, x5, x6, _⟩
          · omega
          · exact ⟨b, x5, x6⟩
      have hkat : kindAt L.procs p.met = (L.procs[b]).2.kind := by unfold kindAt; rw [hb]; simp [hbl]
      have tp : tokP L.procs p = if (L.procs[b]).2.kind = p.kind then sgn p.kind else 0 := by rw [tokP_met (p := p) (Or.inr e7) (by omega), hkat]
      have eM : ∃ y, (L.setP i (incPr p)).procs[(incPr p).met.toNat]? = some y ∧ y.2.kind = (L.procs[b]).2.kind := by
        have em : (incPr p).met.toNat = b := by show p.met.toNat = b; omega
        rw [em]
        by_cases eb : b = i
        · subst eb
          refine ⟨((L.procs.getD b (0, incPr p)).1, incPr p), ?_, ?_⟩
          · show (L.procs.set b _)[b]? = _
            rw [List.getElem?_set_self hi]
          · show p.kind = _
            rw [hep]
        · refine ⟨L.procs[b], ?_, rfl⟩
          show (L.procs.set i _)[b]? = _
          rw [List.getElem?_set_ne (Ne.symm eb), List.getElem?_eq_getElem hbl]
      obtain ⟨y, ey, ky⟩ := eM
      rw [ey]
      simp only
      unfold settledPr
      by_cases e : p.kind = y.2.kind
      · rw [if_pos (show ({ incPr p with met := -1 } : Pr).kind = y.2.kind from e)]
        refine ⟨rfl, ?_⟩
        rw [tp, ← ky, if_pos e.symm, tokP_lo (by show ¬ ((0 : Int) = 6 ∨ (0 : Int) = 7); decide), if_pos (by show (0 : Int) ≤ 12; decide)]
      · rw [if_neg (show ¬ ({ incPr p with met := -1 } : Pr).kind = y.2.kind from e)]
        rw [tp, ← ky, if_neg (Ne.symm e)]
        split
        · exact ⟨rfl, by rw [tokP_lo (by show ¬ ((19 : Int) = 6 ∨ (19 : Int) = 7); decide), if_neg (by show ¬ (19 : Int) ≤ 12; decide)]⟩
        · exact ⟨rfl, by rw [tokP_lo (by show ¬ ((19 : Int) = 6 ∨ (19 : Int) = 7); decide), if_neg (by show ¬ (19 : Int) ≤ 12; decide)]⟩
    rw [if_neg e7]
    by_cases e15 : p.phase = 15
    · have hk3 : 3 ≤ p.kind := Int.not_lt.1 fun x => hkp.walk x (by omega)
      rw [if_pos e15]
      have : (shutCh (L.setP i (incPr p)) v (incPr p)).kind = p.kind := by unfold shutCh; split <;> rfl
      exact ⟨this, ch _ this hk3⟩
    rw [if_neg e15]
    by_cases e16 : p.phase = 16
    · have hk3 : 3 ≤ p.kind := Int.not_lt.1 fun x => hkp.walk x (by omega)
      rw [if_pos e16]
      have : (drainCh (L.setP i (incPr p)) v (incPr p)).kind = p.kind := by unfold drainCh; split; rfl; split <;> rfl
      exact ⟨this, ch _ this hk3⟩
    rw [if_neg e16]
    by_cases e18 : p.phase = 18
    · have hk3 : 3 ≤ p.kind := Int.not_lt.1 fun x => hkp.walk x (by omega)
      rw [if_pos e18]
      exact ⟨rfl, ch _ rfl hk3⟩
    rw [if_neg e18]
    by_cases e19 : p.phase = 19
    · rw [if_pos e19]
      refine ⟨rfl, ?_⟩
      have hup : (upPr (incPr p)).phase = 19 ∨ (upPr (incPr p)).phase = 20 := by
        unfold upPr
        simp only
        split
        · exact Or.inr rfl
        · exact Or.inl rfl
      rw [tokP_lo (p := upPr (incPr p)) (by omega), if_neg (by omega), tokP_lo (p := p) (by omega), if_neg (by omega)]
    omega
  exact stay _ _ hmv.1 hmv.2
end

end Go.Proofs.Ytjnmpejcegmkhaa

namespace Go.Proofs.Ytjnmpejcegmkhaa
open Go.RowKit

structure XOk (c : Conf) (L : Lay) : Prop where
  pat : PatOk c L
  tot : TotOk L

theorem XOk.step {c : Conf} {L : Lay} {P : PLay} (h : CRel c L P) (x : XOk c L) {i : Nat} (hi : i < L.procs.length) (hl : (L.procs[i]).2.phase ≠ 20) (draw : Int) : XOk c (lstep L i draw) := by
  obtain ⟨_, _, _, _, hp, _⟩ := h.sq x.pat hi hl draw
  obtain ⟨v, n, hh⟩ := h.rel.here hi hl
  exact ⟨hp, hh.tot h.ck draw x.tot⟩

theorem XOk.lround {c : Conf} {L : Lay} {P : PLay} (h : CRel c L P) (x : XOk c L) (d : Int) : ∀ k, k ≤ L.procs.length → XOk c (lroundTo L d k)
  | 0, _ => x
  | k + 1, hk => by
    obtain ⟨⟨P', h'⟩, _, _⟩ := lround_keep h d k (by omega)
    have ih := XOk.lround h x d k (by omega)
    have hl : k < (lroundTo L d k).procs.length := by rw [lroundTo_len]; omega
    unfold lroundTo
    split
    · exact ih
    · rename_i hne
      have hp : ((lroundTo L d k).procs[k]).2.phase ≠ 20 := by
        rw [List.getD_eq_getElem?_getD, List.getElem?_eq_getElem hl] at hne
        exact hne
      exact XOk.step h' ih hl hp (d + k)
theorem XOk.lrest {c : Conf} {L : Lay} {P : PLay} (h : CRel c L P) (x : XOk c L) (m : Int) : ∀ r, XOk c (lrest L m r)
  | 0 => x
  | r + 1 => by
    obtain ⟨⟨P', h'⟩, _, _⟩ := lrest_keep h m r
    have ih := XOk.lrest h x m r
    unfold Go.Proofs.Ytjnmpejcegmkhaa.lrest
    exact XOk.lround h' ih (m + r) L.procs.length (by rw [lrest_len]; omega)

theorem sumP_one (f : Pr → Int) (x : Nat × Pr) : ∀ ps : Ps, sumP f (ps ++ [x]) = sumP f ps + f x.2
  | [] => by simp [sumP]
  | y :: r => by simp only [List.cons_append, sumP]; rw [sumP_one f x r]; omega

theorem XOk.spawn {c : Conf} {L : Lay} {P : PLay} (h : CRel c L P) (x : XOk c L) (o : Op3) : XOk c { L with procs := L.procs ++ [(0, newPr o)] } := by
  have hph : (newPr o).phase = 0 ∨ ((newPr o).phase = 15 ∧ 3 ≤ o.kind) := by
    unfold newPr
    by_cases e : isChange o ∧ o.node = 1
    · right
      refine ⟨by simp [e], ?_⟩
      have := e.1
      unfold isChange at this
      simp at this
      omega
    · left
      simp [e]
  refine ⟨fun i hi => ?_, ?_⟩
  · have hi' : i < (L.procs ++ [(0, newPr o)]).length := hi
    simp only [List.length_append, List.length_cons, List.length_nil] at hi'
    by_cases e : i < L.procs.length
    · simp only [List.getElem_append_left e]
      exact x.pat i e
    · have e' : i = L.procs.length := by omega
      subst e'
      simp only [List.getElem_append_right (Nat.le_refl _), Nat.sub_self, List.getElem_cons_zero]
      refine ⟨fun a => ?_, fun a => ?_⟩
      · have : (newPr o).phase = 6 := a
        omega
      · have : (newPr o).phase = 16 := a
        omega
  · have ht := x.tot
    unfold TotOk at ht ⊢
    show balS L + sumP (tokP (L.procs ++ [(0, newPr o)])) (L.procs ++ [(0, newPr o)]) = sumP (fun p => sgn p.kind) (L.procs ++ [(0, newPr o)])
    rw [sumP_one, sumP_one]
    have e1 : sumP (tokP (L.procs ++ [(0, newPr o)])) L.procs = sumP (tokP L.procs) L.procs := by
      refine sumP_congr _ _ _ fun j hj => ?_
      cases hm : metB (L.procs[j]).2 with
      | false => unfold tokP; rw [hm]; simp
      | true =>
        have hlt : (L.procs[j]).2.met.toNat < L.procs.length := by
          have hm' := hm
          unfold metB at hm'
          simp only [Bool.and_eq_true, Bool.or_eq_true, decide_eq_true_eq] at hm'
          obtain ⟨v, n, hh⟩ := h.rel.here hj (by omega)
          obtain ⟨k, hk, hs⟩ := hh.slotk
          obtain ⟨_, hx⟩ := hh.mine hm'.1 hk hs (hh.inner (by omega) (by omega))
          rcases hx with ⟨_, _, e⟩ | ⟨_, b, _, e, hb, _⟩
          · omega
          · omega
        unfold tokP
        rw [kindAt_app hlt]
    have e2 : tokP (L.procs ++ [(0, newPr o)]) (newPr o) = sgn (newPr o).kind := by
      rcases hph with e | ⟨e, hk⟩
      · rw [tokP_lo (by omega), if_pos (by omega)]
      · rw [tokP_ch (show 3 ≤ (newPr o).kind from hk)]
        show 0 = sgn o.kind
        unfold sgn
        rw [if_neg (by omega), if_neg (by omega)]
    rw [e1]
    show balS L + (_ + tokP (L.procs ++ [(0, newPr o)]) (newPr o)) = _ + sgn (newPr o).kind
    rw [e2]
    omega

theorem XOk.new (c : Conf) : XOk c (newLay c) := by
  refine ⟨fun i hi => absurd hi (Nat.not_lt_zero _), ?_⟩
  show balS (newLay c) + 0 = 0
  have : balS (newLay c) = 0 := by
    unfold balS
    refine sumN_zero _ _ fun w hw => ?_
    by_cases h0 : w = 0
    · subst h0
      rw [(newLay_new c).hist0]
      simp [balH, formH]
    · rw [(newLay_new c).hist w (by omega) hw]
      unfold newHist
      split
      · simp [balH, formH]
      · split
        · simp [balH, formH, putsH, fromH, manyH]
        · simp [balH, formH]
  omega

theorem XOk.play {w : World} {B hb : Nat} {c : Conf} {S : Gh} {P : PLay} (h : KSt w B hb c S P) (x : XOk c S.L) (k a b : Int) : XOk c (gplay c S k a b).L := by
  unfold gplay
  split
  · unfold gstep
    split
    · rename_i hh
      have hi : a.toNat < S.L.procs.length := by omega
      have h20 := hh.2.2
      rw [phaseAt_eq S.L _ hi] at h20
      exact XOk.step h.rel x hi h20 b
    · exact x
  · split
    · unfold grest
      split
      · exact XOk.lrest h.rel x _ _
      · exact x
    · split
      · unfold gspawn
        split
        · exact XOk.spawn h.rel x _
        · exact x
      · exact x

end Go.Proofs.Ytjnmpejcegmkhaa

namespace Go.Proofs.Ytjnmpejcegmkhaa
open Go.RowKit

abbrev KS : List TypeId := [78, 119, 135, 4]

theorem hstep2_c {w : World} {B hb : Nat} {c : Conf} {S : Gh} {P : PLay} (h : KSt w B hb c S P) (p draw : Int) :
    Calls Try.prog 43 #[.pointer (some ⟨hb, 0, none⟩), I p, I draw] w fun e w' => e = .returned (.bool true) ∧ (∃ P', KSt w' B hb c (gstep S p draw) P') ∧ ChgT B KS w w' := by
  have hpl := h.rel.plen
  have same : gstep S p draw = S → (Calls Try.prog 43 #[.pointer (some ⟨hb, 0, none⟩), I p, I draw] w fun e w' => e = .returned (.bool true) ∧ Below w.heap.size w w') → Calls Try.prog 43 #[.pointer (some ⟨hb, 0, none⟩), I p, I draw] w fun e w' => e = .returned (.bool true) ∧ (∃ P', KSt w' B hb c (gstep S p draw) P') ∧ ChgT B KS w w' := by
    intro eg hc
    rw [eg]
    refine hc.mono ?_
    rintro e w' ⟨rfl, hb'⟩
    exact ⟨rfl, ⟨P, h.below hb'⟩, ChgT.of_below hb'⟩
  by_cases hin : 0 ≤ p ∧ p < S.L.procs.length
  · obtain ⟨i, rfl⟩ := Int.eq_ofNat_of_zero_le hin.1
    have hi : i < S.L.procs.length := by omega
    have hiP : i < P.procs.length := by omega
    have htd := h.told i hi
    by_cases h20 : (S.L.procs[i]).2.phase = 20
    · refine same ?_ (kstep_done h.rep i hiP (by rw [htd]; exact h20) draw fun W hW => ?_)
      · unfold gstep
        rw [if_neg]
        rintro ⟨_, _, x⟩
        rw [Int.toNat_natCast, phaseAt_eq S.L i hi] at x
        exact x h20
      · have hv0 : 0 < P.nodes.length := by rw [h.rel.rel.plen]; omega
        obtain ⟨g, hf⟩ := PF.start hW hv0 hiP
        refine pStep_done hf ?_ draw
        have : P.procs[i] = toPP (S.L.procs[i]).2 := by simp [h.rel.rel.procs]
        rw [this]
        exact h20
    · obtain ⟨v, n, hh⟩ := h.rel.rel.here hi h20
      obtain ⟨p', hwt⟩ := hh.went h.rel.ck draw
      obtain ⟨ph, hps, _, _⟩ := h.rel.next (B := B) hi h20 draw
      have hlen' := went_len hwt
      have hph := hh.q.phase
      have eg : gstep S i draw = ⟨lstep S.L i draw, S.ops, S.went.set i true⟩ := by
        unfold gstep
        rw [if_pos ⟨hin.1, hin.2, by rw [Int.toNat_natCast, phaseAt_eq S.L i hi]; exact h20⟩, Int.toNat_natCast]
      have hF : ∀ P' : PLay, (P'.tb = P.tb ∧ CRel c (lstep S.L i draw) P') → P'.tb = P.tb ∧ P'.c = P.c ∧ P'.procs.length = P.procs.length ∧ (P'.procs.getD i zeroPP).phase = p'.phase := by
        rintro P' ⟨a, b⟩
        have hl' := b.plen
        refine ⟨a, by rw [b.rel.cP, h.rel.rel.cP], by omega, ?_⟩
        have e : P'.procs.getD i zeroPP = toPP ((lstep S.L i draw).procs[i]'(by omega)).2 := by
          rw [b.rel.procs, List.getD_eq_getElem?_getD, List.getElem?_map, List.getElem?_eq_getElem (by omega)]
          rfl
        rw [e, went_self hwt (by omega)]
        rfl
      have hsr := fun W (hW : PRep W B P) (hBW : B ≤ W.heap.size) => pStep_ret (B := B) hiP (by rw [show P.procs[i] = toPP (S.L.procs[i]).2 by simp [h.rel.rel.procs]]; exact h20) draw (F := fun P' => P'.tb = P.tb ∧ CRel c (lstep S.L i draw) P') (fun P' hP' => ⟨(hF P' hP').1, (hF P' hP').2.2.1⟩) hps.1 hW hBW
      rw [eg]
      refine (kstep_run h.rep h.hB i hiP draw p'.phase (S.L.procs[i]).2.phase (by rw [htd]) hph.1 (by omega) hwt.pm.behind (fun P' => P'.tb = P.tb ∧ CRel c (lstep S.L i draw) P') ?_ ?_).mono ?_
      · intro P' hP'
        obtain ⟨a, b, d, e⟩ := hF P' hP'
        refine ⟨a, b, d, ?_⟩
        unfold toldP
        rw [if_pos ⟨by omega, by omega⟩, Int.toNat_natCast]
        exact e
      · intro W hW hBW
        refine (hsr W hW hBW).mono ?_
        rintro x w' ⟨⟨P', rfl, hP', hr⟩, hc⟩
        exact ⟨by rw [(hF P' hP').2.2.2], ⟨P', hP', hr⟩, hc⟩
      · rintro e w' ⟨rfl, ⟨P', hP', hr⟩, hc⟩
        refine ⟨rfl, ⟨P', hr, hP'.2, Nat.le_trans h.hB hc.size, ?_⟩, hc.mono (Nat.le_refl _) (by simp)⟩
        refine ⟨by simp only [List.length_set]; rw [hlen']; exact h.of.wlen, by show S.ops = opsL (lstep S.L i draw); rw [opsL_went hwt hi rfl]; exact h.of.op, slot_went hwt hi rfl h.of.slot, fun j hj hj' hw => ?_⟩
        simp only at hj hj' hw ⊢
        by_cases e : j = i
        · subst e
          rw [List.getElem_set_self] at hw
          exact absurd hw (by simp)
        · rw [List.getElem_set_ne (Ne.symm e)] at hw
          have hjL : j < S.L.procs.length := by omega
          obtain ⟨x1, x2, x3, x4, x5, x6, _⟩ := pp_told (went_other hwt j hjL hj e)
          have := h.of.new j hjL (by have := h.of.wlen; omega) hw
          rw [x1, x2, x3, x4, x5, x6]
          exact this
  · refine same ?_ (kstep_none h.rep p (by omega) draw)
    unfold gstep
    rw [if_neg]
    rintro ⟨x, y, _⟩
    exact hin ⟨x, y⟩

end Go.Proofs.Ytjnmpejcegmkhaa

namespace Go.Proofs.Ytjnmpejcegmkhaa
open Go.RowKit

theorem KSt.at {w : World} {B hb : Nat} {c : Conf} {S : Gh} {P : PLay} (h : KSt w B hb c S P) {W : World} (hw : Below w.heap.size w W) (p : Nat) (hp : p < S.L.procs.length) :
    Calls Try.prog 44 #[.pointer (some ⟨hb, 0, none⟩), I p] W fun e w' => e = .returned (.agg #[I (S.L.procs[p]).2.phase, I (S.L.procs[p]).2.node, I (S.L.procs[p]).2.val]) ∧ Below W.heap.size W w' := by
  have := kat_c (h.rep.below hw) (p : Int)
  rw [h.told p hp] at this
  exact this
theorem KSt.opsAt {w : World} {B hb : Nat} {c : Conf} {S : Gh} {P : PLay} (h : KSt w B hb c S P) : ∃ ao cap, w.cell? ⟨hb, 9, none⟩ = some (.slice ao S.L.procs.length cap) ∧ S.L.procs.length ≤ cap ∧ S.L.procs.length ≤ 256 ∧ cap ≤ maxLen := by
  obtain ⟨_, _, _, ao, cap, c9, q1, q2, q3⟩ := h.rep.conf
  have e : S.ops.length = S.L.procs.length := h.rep.len.trans h.rel.plen
  rw [e] at c9 q1
  exact ⟨ao, cap, c9, q1, h.rel.rel.np, q3⟩

end Go.Proofs.Ytjnmpejcegmkhaa

namespace Go.Proofs.Ytjnmpejcegmkhaa
open Go.RowKit

/-- Who is not Done, of the first k. -/
def livTo (ps : Prs) : Nat → List Nat
  | 0 => []
  | k + 1 => livTo ps k ++ (if h : k < ps.length then (if (ps[k]).2.phase = 20 then [] else [k]) else [])
theorem livTo_len (ps : Prs) : ∀ k, (livTo ps k).length ≤ k
  | 0 => Nat.le_refl _
  | k + 1 => by
    have := livTo_len ps k
    simp only [livTo, List.length_append]
    split
    · split <;> simp <;> omega
    · simp; omega
theorem livTo_lt (ps : Prs) : ∀ k x, x ∈ livTo ps k → x < k ∧ x < ps.length
  | 0, x, h => by simp [livTo] at h
  | k + 1, x, h => by
    simp only [livTo, List.mem_append] at h
    rcases h with h | h
    · have := livTo_lt ps k x h; omega
    · split at h
      · split at h
        · simp at h
        · simp only [List.mem_cons, List.not_mem_nil, or_false] at h; omega
      · simp at h
theorem livTo_no (ps : Prs) : ∀ k i, i < k → (hi : i < ps.length) → i ∉ livTo ps k → (ps[i]).2.phase = 20
  | 0, i, h, _, _ => by omega
  | k + 1, i, h, hi, hn => by
    simp only [livTo, List.mem_append, not_or] at hn
    by_cases e : i = k
    · subst e
      have := hn.2
      rw [dif_pos hi] at this
      by_cases e20 : (ps[i]).2.phase = 20
      · exact e20
      · rw [if_neg e20] at this
        simp at this
    · exact livTo_no ps k i (by omega) hi hn.1

/-- Round the list from f on, either way: each is met. -/
theorem turn_up (m f t : Nat) (hf : f < m) (ht : t < m) : ∃ i, i < m ∧ (f + i) % m = t := by
  by_cases h : f ≤ t
  · exact ⟨t - f, by omega, by rw [show f + (t - f) = t by omega]; exact Nat.mod_eq_of_lt ht⟩
  · refine ⟨t + m - f, by omega, ?_⟩
    rw [show f + (t + m - f) = t + m by omega, Nat.add_mod_right]
    exact Nat.mod_eq_of_lt ht
theorem turn_down (m f t : Nat) (hf : f < m) (ht : t < m) : ∃ i, i < m ∧ (f + m - i) % m = t := by
  by_cases h : t ≤ f
  · refine ⟨f - t, by omega, ?_⟩
    rw [show f + m - (f - t) = t + m by omega, Nat.add_mod_right]
    exact Nat.mod_eq_of_lt ht
  · refine ⟨f + m - t, by omega, ?_⟩
    rw [show f + m - (f + m - t) = t by omega]
    exact Nat.mod_eq_of_lt ht

theorem kcalm_c (c : Conf) (hm : mayC c = true) (w : World) : Calls Try.prog 53 #[confV c] w fun e w' => e = .returned (I (calmR c)) ∧ Below w.heap.size w w' := by
  have hc : 0 ≤ c.depth ∧ c.depth ≤ 4 ∧ 0 ≤ c.spin ∧ c.spin ≤ 8 ∧ 0 ≤ c.drain ∧ c.drain ≤ 16 ∧ 1 ≤ c.procs ∧ c.procs ≤ 16 := by simp [mayC] at hm; omega
  have HR : Hid (calmR c = (c.procs + 1) * (c.drain + 8) + (c.depth + 1) * (c.spin + 12)) := rfl
  unfold confV
  generalize calmR c = R at *
  obtain ⟨kd, dp, st, sl, wd, sp, dr, pr⟩ := c
  simp only at *
  have b1 : (pr + 1) * (dr + 8) ≤ 17 * 24 := Int.mul_le_mul (by omega) (by omega) (by omega) (by omega)
  have b2 : 0 ≤ (pr + 1) * (dr + 8) := Int.mul_nonneg (by omega) (by omega)
  have b3 : (dp + 1) * (sp + 12) ≤ 5 * 20 := Int.mul_le_mul (by omega) (by omega) (by omega) (by omega)
  have b4 : 0 ≤ (dp + 1) * (sp + 12) := Int.mul_nonneg (by omega) (by omega)
  have hb : Below w.heap.size w (w.alloc (.cells #[I kd, I dp, I st, I sl, I wd, I sp, I dr, I pr] 23)) := (Below.refl _ _).alloc (Nat.le_refl _) _
  clear hm
  go_enter Try.func53, Try.ntmps53
  go_wp2_with fail
  go_ret
  exact ⟨by rw [HR.out]; rfl, hb⟩

end Go.Proofs.Ytjnmpejcegmkhaa

namespace Go.Proofs.Ytjnmpejcegmkhaa
open Go.RowKit

def undB (u w : Nat) : Bool := decide (climb 6 w u = u)
def subS (L : Lay) (u : Nat) : Int := sumN (fun w => if undB u w = true then balH (L.hist w) else 0) L.past.length

theorem und_facts : ∀ u : Fin 32, ∀ w : Fin 32, 1 ≤ u.1 → (undB u.1 w.1 = (decide (w.1 = u.1) || (undB (2 * u.1) w.1 || undB (2 * u.1 + 1) w.1))) ∧ ¬ (undB (2 * u.1) w.1 = true ∧ undB (2 * u.1 + 1) w.1 = true) ∧ undB (2 * u.1) u.1 = false ∧ undB (2 * u.1 + 1) u.1 = false := by decide +kernel
theorem und_one : ∀ w : Fin 32, 1 ≤ w.1 → undB 1 w.1 = true := by decide +kernel
theorem und_half : ∀ u : Fin 32, ∀ w : Fin 32, 1 ≤ u.1 → w.1 ≠ u.1 → undB u.1 w.1 = true → undB u.1 (w.1 / 2) = true ∧ 2 ≤ w.1 := by decide +kernel
theorem rank_kid : ∀ u : Fin 32, 1 ≤ u.1 → rank (2 * u.1) = rank u.1 ∧ rank (2 * u.1 + 1) = rank u.1 + 2 ^ Nat.log2 u.1 ∧ Nat.log2 (2 * u.1) = Nat.log2 u.1 + 1 ∧ Nat.log2 (2 * u.1 + 1) = Nat.log2 u.1 + 1 ∧ rank 1 = 0 ∧ Nat.log2 1 = 0 := by decide +kernel

theorem sumN_add (f g : Nat → Int) : ∀ n, sumN (fun w => f w + g w) n = sumN f n + sumN g n
  | 0 => rfl
  | n + 1 => by simp only [sumN]; rw [sumN_add f g n]; omega
theorem sumN_sub (f g : Nat → Int) : ∀ n, sumN (fun w => f w - g w) n = sumN f n - sumN g n
  | 0 => rfl
  | n + 1 => by simp only [sumN]; rw [sumN_sub f g n]; omega
theorem sumN_at (x : Int) (u : Nat) : ∀ n, u < n → sumN (fun w => if w = u then x else 0) n = x
  | 0, h => by omega
  | n + 1, h => by
    simp only [sumN]
    by_cases e : n = u
    · subst e
      rw [if_pos rfl, sumN_zero _ _ fun w hw => by rw [if_neg (by omega)]]
      omega
    · rw [if_neg e, sumN_at x u n (by omega)]
      omega

section
variable {c : Conf} {L : Lay} {P : PLay}

theorem sub_split (hN : L.past.length ≤ 32) {u : Nat} (h1 : 1 ≤ u) (hu : 2 * u + 1 < L.past.length) : subS L u = balH (L.hist u) + (subS L (2 * u) + subS L (2 * u + 1)) ∧ sumN (fun w => side u w * balH (L.hist w)) L.past.length = subS L (2 * u) - subS L (2 * u + 1) := by
  unfold subS
  refine ⟨?_, ?_⟩
  · rw [← sumN_add, ← sumN_at (balH (L.hist u)) u L.past.length (by omega), ← sumN_add]
    refine sumN_congr _ _ _ fun w hw => ?_
    obtain ⟨a, b, d, e⟩ := und_facts ⟨u, by omega⟩ ⟨w, by omega⟩ h1
    simp only at a b d e
    rw [a]
    by_cases ew : w = u
    · subst ew
      simp [d, e]
    · simp only [ew, decide_false, Bool.false_or, if_false]
      cases x : undB (2 * u) w <;> cases y : undB (2 * u + 1) w
      · simp
      · simp
      · simp
      · exact absurd ⟨x, y⟩ b
  · rw [← sumN_sub]
    refine sumN_congr _ _ _ fun w hw => ?_
    obtain ⟨_, b, _, _⟩ := und_facts ⟨u, by omega⟩ ⟨w, by omega⟩ h1
    simp only at b
    have es : side u w = if undB (2 * u) w = true then 1 else if undB (2 * u + 1) w = true then -1 else 0 := by
      unfold side undB
      simp only [decide_eq_true_eq]
    rw [es]
    cases x : undB (2 * u) w <;> cases y : undB (2 * u + 1) w
    · simp
    · simp
    · simp
    · exact absurd ⟨x, y⟩ b

theorem sub_leaf (h : CRel c L P) {u : Nat} (h1 : 1 ≤ u) (hu : u < L.past.length) (hf : formH (L.hist u) = 2) : subS L u = balH (L.hist u) := by
  have hN := h.rel.lenle
  have key : ∀ w, w < L.past.length → w ≠ u → undB u w = true → formH (L.hist w) = 3 := by
    intro w
    induction w using Nat.strongRecOn with
    | _ w ih =>
      intro hw hne hun
      obtain ⟨a, b⟩ := und_half ⟨u, by omega⟩ ⟨w, by omega⟩ h1 hne hun
      simp only at a b
      by_cases e3 : formH (L.hist w) = 3
      · exact e3
      · have hp := h.ck.ci.par w b hw e3
        by_cases eu : w / 2 = u
        · rw [eu] at hp
          omega
        · have := ih (w / 2) (by omega) (by omega) eu a
          omega
  unfold subS
  rw [← sumN_at (balH (L.hist u)) u L.past.length hu]
  refine sumN_congr _ _ _ fun w hw => ?_
  by_cases ew : w = u
  · subst ew
    have : undB w w = true := by
      have := (und_facts ⟨w, by omega⟩ ⟨w, by omega⟩ h1).1
      simp only at this
      rw [this]
      simp
    rw [if_pos this, if_pos rfl]
  · rw [if_neg ew]
    cases x : undB u w
    · simp
    · simp only [if_true]
      unfold balH
      rw [key w hw ew x]
      simp

theorem sub_all (h : CRel c L P) : subS L 1 = balS L := by
  have hN := h.rel.lenle
  unfold subS balS
  refine sumN_congr _ _ _ fun w hw => ?_
  by_cases e : w = 0
  · subst e
    have : balH (L.hist 0) = 0 := by unfold balH; rw [h.rel.hist0]; simp
    rw [this]
    simp
  · rw [if_pos (und_one ⟨w, by omega⟩ (by show 1 ≤ w; omega))]

end

end Go.Proofs.Ytjnmpejcegmkhaa

namespace Go.Proofs.Ytjnmpejcegmkhaa
open Go.RowKit

/-- Number x has been handed out by a leaf that there is now. -/
def Iss (L : Lay) (x : Int) : Prop := ∃ u t : Nat, 1 ≤ u ∧ u < L.past.length ∧ formH (L.hist u) = 2 ∧ x = (rank u : Int) + t * 2 ^ Nat.log2 u ∧ (t : Int) < putsH (L.hist u)

def endedI (q : PP) : Prop := q.kind = 0 ∧ (q.phase = 19 ∨ q.phase = 20)

structure NumOk (L : Lay) : Prop where
  iss : ∀ i, (hi : i < L.procs.length) → endedI (toPP (L.procs[i]).2) → Iss L (L.procs[i]).2.val
  diff : ∀ i j, (hi : i < L.procs.length) → (hj : j < L.procs.length) → i ≠ j → endedI (toPP (L.procs[i]).2) → endedI (toPP (L.procs[j]).2) → (L.procs[i]).2.val ≠ (L.procs[j]).2.val

/-- Two leaves hand out no number in common. -/
theorem rank_apart : ∀ u : Fin 32, ∀ v : Fin 32, 1 ≤ u.1 → 1 ≤ v.1 → u.1 ≠ v.1 → undB u.1 v.1 = false → undB v.1 u.1 = false → rank u.1 % 2 ^ (min (Nat.log2 u.1) (Nat.log2 v.1)) ≠ rank v.1 % 2 ^ (min (Nat.log2 u.1) (Nat.log2 v.1)) := by decide +kernel

theorem num_apart {u v : Nat} (hu : u < 32) (hv : v < 32) (u1 : 1 ≤ u) (v1 : 1 ≤ v) (hne : u ≠ v) (h1 : undB u v = false) (h2 : undB v u = false) (s t : Nat) : (rank u : Int) + s * 2 ^ Nat.log2 u ≠ (rank v : Int) + t * 2 ^ Nat.log2 v := by
  intro e
  have hr := rank_apart ⟨u, hu⟩ ⟨v, hv⟩ u1 v1 hne h1 h2
  simp only at hr
  have e' : rank u + s * 2 ^ Nat.log2 u = rank v + t * 2 ^ Nat.log2 v := by
    have : ((rank u + s * 2 ^ Nat.log2 u : Nat) : Int) = ((rank v + t * 2 ^ Nat.log2 v : Nat) : Int) := by push_cast; exact e
    omega
  apply hr
  have d1 : 2 ^ (min (Nat.log2 u) (Nat.log2 v)) ∣ s * 2 ^ Nat.log2 u := Nat.dvd_trans (Nat.pow_dvd_pow 2 (Nat.min_le_left _ _)) (Nat.dvd_mul_left _ _)
  have d2 : 2 ^ (min (Nat.log2 u) (Nat.log2 v)) ∣ t * 2 ^ Nat.log2 v := Nat.dvd_trans (Nat.pow_dvd_pow 2 (Nat.min_le_right _ _)) (Nat.dvd_mul_left _ _)
  generalize 2 ^ (min (Nat.log2 u) (Nat.log2 v)) = M at *
  obtain ⟨a, ha⟩ := d1
  obtain ⟨b, hb⟩ := d2
  rw [ha, hb] at e'
  have m1 : (rank u + M * a) % M = rank u % M := Nat.add_mul_mod_self_left _ _ _
  have m2 : (rank v + M * b) % M = rank v % M := Nat.add_mul_mod_self_left _ _ _
  rw [← m1, ← m2, e']

section
variable {c : Conf} {L : Lay} {P : PLay} {i v : Nat} {p : Pr} {n : PN}

/-- Of two leaves neither is below the other. -/
theorem leaf_apart (h : CRel c L P) {u v : Nat} (u1 : 1 ≤ u) (hu : u < L.past.length) (hf : formH (L.hist u) = 2) (hv : v < L.past.length) (hg : formH (L.hist v) ≠ 3) (hne : v ≠ u) : undB u v = false := by
  have hN := h.rel.lenle
  cases hh : undB u v with
  | false => rfl
  | true =>
    exfalso
    have key : ∀ w, w < L.past.length → w ≠ u → undB u w = true → formH (L.hist w) = 3 := by
      intro w
      induction w using Nat.strongRecOn with
      | _ w ih =>
        intro hw hne hun
        obtain ⟨a, b⟩ := und_half ⟨u, by omega⟩ ⟨w, by omega⟩ u1 hne hun
        simp only at a b
        by_cases e3 : formH (L.hist w) = 3
        · exact e3
        · have hp := h.ck.ci.par w b hw e3
          by_cases eu : w / 2 = u
          · rw [eu] at hp
            omega
          · have := ih (w / 2) (by omega) (by omega) eu a
            omega
    exact hg (key v hv hne hh)

theorem over_facts (l : Hist) (ev : Ev) (iv : Value) (h3 : 3 < ev.what) : formH ((ev, iv) :: l) = formH l ∧ putsH l ≤ putsH ((ev, iv) :: l) := by
  have hn3 : ¬ ev.what ≤ 3 := by omega
  constructor
  · simp [formH, hn3]
  · unfold putsH
    simp [fromH, manyH, hn3, h3]
    split <;> omega

theorem Here.over (h : Here c L P i v p n) (draw : Int) (h17 : p.phase ≠ 17) (u : Nat) : formH ((lstep L i draw).hist u) = formH (L.hist u) ∧ putsH (L.hist u) ≤ putsH ((lstep L i draw).hist u) := by
  have hv := h.vN
  have same : ∀ L' : Lay, L'.hist u = L.hist u → formH (L'.hist u) = formH (L.hist u) ∧ putsH (L.hist u) ≤ putsH (L'.hist u) := fun L' e => by rw [e]; exact ⟨rfl, Int.le_refl _⟩
  have happ : ∀ (q p' : Pr) (ev : Ev), 3 < ev.what → formH ((((L.setP i q).hap v nilV ev nilV).setP i p').hist u) = formH (L.hist u) ∧ putsH (L.hist u) ≤ putsH ((((L.setP i q).hap v nilV ev nilV).setP i p').hist u) := by
    intro q p' ev h3
    have e : (((L.setP i q).hap v nilV ev nilV).setP i p').hist u = if u = v then (ev, nilV) :: L.hist v else L.hist u := hist_hap (L.setP i q) v u nilV ev nilV hv
    rw [e]
    by_cases eu : u = v
    · rw [if_pos eu, eu]
      exact over_facts _ _ _ h3
    · rw [if_neg eu]
      exact ⟨rfl, Int.le_refl _⟩
  rw [h.lat draw, h.lget]
  simp only
  split
  · split
    · exact same _ rfl
    · split
      · exact same _ rfl
      · exact same _ rfl
  · split
    · exact happ _ _ _ (by show (3 : Int) < 5; decide)
    · split
      · exact happ _ _ _ (by show (3 : Int) < 5; decide)
      · split
        · exact happ _ _ _ (by show (3 : Int) < 4; decide)
        · split
          · split
            · exact happ _ _ _ (by show (3 : Int) < 6; decide)
            · split
              · exact happ _ _ _ (by show (3 : Int) < 6; decide)
              · exact happ _ _ _ (by show (3 : Int) < 7; decide)
          · split
            · split
              · exact happ _ _ _ (by show (3 : Int) < 8; decide)
              · exact same _ rfl
            · split
              · split
                · exact happ _ _ _ (by show (3 : Int) < 9; decide)
                · exact same _ rfl
              · exact same _ rfl

theorem Here.val19 (h : Here c L P i v p n) (draw : Int) {p' : Pr} (hw : Went L i v p p' (lstep L i draw)) (e19 : p.phase = 19) : p'.val = p.val := by
  have hi := h.hi
  have el : lstep L i draw = (L.setP i (incPr p)).setP i (upPr (incPr p)) := by
    rw [h.lat draw, h.lget]
    simp only
    rw [if_neg (by omega), if_neg (by omega), if_neg (by omega), if_neg (by omega), if_neg (by omega), if_neg (by omega), if_neg (by omega), if_neg (by omega)]
    unfold lmove
    have ein : (incPr p).phase = p.phase := rfl
    rw [ein, if_neg (by omega), if_neg (by omega), if_neg (by omega), if_neg (by omega), if_neg (by omega), if_neg (by omega), if_neg (by omega), if_neg (by omega), if_neg (by omega), if_neg (by omega), if_neg (by omega), if_pos e19]
  have e := hw.procs
  have e2 : ∀ q : Pr, toPPs ((L.setP i (incPr p)).setP i q).procs = (toPPs L.procs).set i (toPP q) := by
    intro q
    rw [toPPs_setP, toPPs_setP, List.set_set]
  rw [el, e2] at e
  have := (toPPs_setP_get (by rw [toPPs_len]; exact hi) e).symm
  have := (pp_told this).2.2.2.2.2.1
  rw [this]
  rfl

theorem Here.val12 (h : Here c L P i v p n) (draw : Int) {p' : Pr} (hw : Went L i v p p' (lstep L i draw)) (e12 : p.phase = 12) (k0 : p.kind = 0) : p'.val = (rank v : Int) + putsH (L.hist v) * 2 ^ Nat.log2 v ∧ putsH ((lstep L i draw).hist v) = putsH (L.hist v) + 1 := by
  have hi := h.hi
  have el : lstep L i draw = ((L.setP i (incPr p)).hap v nilV ⟨6, 0, 0, []⟩ nilV).setP i { incPr p with val := rank v + putsH (L.hist v) * 2 ^ Nat.log2 v, phase := 19 } := by
    rw [h.lat draw, h.lget]
    simp only
    rw [if_neg (by omega), if_neg (by omega), if_neg (by omega), if_neg (by omega), if_pos e12, if_pos k0]
  constructor
  · have e := hw.procs
    rw [el] at e
    have e2 : ∀ q : Pr, toPPs (((L.setP i (incPr p)).hap v nilV ⟨6, 0, 0, []⟩ nilV).setP i q).procs = (toPPs L.procs).set i (toPP q) := by
      intro q
      rw [toPPs_setP]
      show (toPPs (L.setP i (incPr p)).procs).set i _ = _
      rw [toPPs_setP, List.set_set]
    rw [e2] at e
    have := (toPPs_setP_get (by rw [toPPs_len]; exact hi) e).symm
    have := (pp_told this).2.2.2.2.2.1
    rw [this]
  · rw [el]
    have e : (((L.setP i (incPr p)).hap v nilV ⟨6, 0, 0, []⟩ nilV).setP i { incPr p with val := rank v + putsH (L.hist v) * 2 ^ Nat.log2 v, phase := 19 }).hist v = (⟨6, 0, 0, []⟩, nilV) :: L.hist v := by
      have := hist_hap (L.setP i (incPr p)) v v nilV ⟨6, 0, 0, []⟩ nilV h.vN
      rw [if_pos rfl] at this
      exact this
    rw [e]
    unfold putsH
    simp [fromH, manyH]
    omega
end

theorem Iss.over {L L' : Lay} (hl : L'.past.length = L.past.length) (h : ∀ u, formH (L'.hist u) = formH (L.hist u) ∧ putsH (L.hist u) ≤ putsH (L'.hist u)) {x : Int} (hx : Iss L x) : Iss L' x := by
  obtain ⟨u, t, a, b, d, e, f⟩ := hx
  obtain ⟨g1, g2⟩ := h u
  exact ⟨u, t, a, by omega, by rw [g1]; exact d, e, by omega⟩

end Go.Proofs.Ytjnmpejcegmkhaa

namespace Go.Proofs.Ytjnmpejcegmkhaa
open Go.RowKit

/-- Of a counter: who was met was met by an Inc; no Inc is in Fetch. -/
def MetQ (ps : Prs) (q : Pr) : Prop := ((q.phase = 6 ∨ q.phase = 7) → 0 ≤ q.met → kindAt ps q.met = 0) ∧ (q.kind = 0 → q.phase ≠ 14)
def MetOk (L : Lay) : Prop := ∀ i, (hi : i < L.procs.length) → MetQ L.procs (L.procs[i]).2

theorem MetQ.kinds {ps ps' : Prs} {q : Pr} (h : MetQ ps q) (hk : ∀ m, kindAt ps' m = kindAt ps m) : MetQ ps' q := ⟨fun a b => by rw [hk]; exact h.1 a b, h.2⟩

theorem met_one {L L' : Lay} (h : MetOk L) {i : Nat} (hi : i < L.procs.length) {pb : Nat} {p' : Pr} (hp : L'.procs = L.procs.set i (pb, p')) (hk : p'.kind = (L.procs[i]).2.kind) (hq : MetQ L.procs p') : MetOk L' := by
  intro j hj
  have hks : ∀ m, kindAt L'.procs m = kindAt L.procs m := fun m => by rw [hp]; exact kindAt_set hi hk m
  have hj' : j < L.procs.length := by rw [hp] at hj; simpa using hj
  by_cases e : j = i
  · subst e
    have : (L'.procs[j]).2 = p' := by
      have : ∀ (l : Prs) (hl : l = L.procs.set j (pb, p')) (hx : j < l.length), (l[j]).2 = p' := by
        intro l hl hx
        subst hl
        rw [List.getElem_set_self]
      exact this _ hp hj
    rw [this]
    exact hq.kinds hks
  · have : L'.procs[j] = L.procs[j] := by
      have : ∀ (l : Prs) (hl : l = L.procs.set i (pb, p')) (hx : j < l.length), l[j] = L.procs[j] := by
        intro l hl hx
        subst hl
        rw [List.getElem_set_ne (Ne.symm e)]
      exact this _ hp hj
    rw [this]
    exact (h j hj').kinds hks

section
variable {c : Conf} {L : Lay} {P : PLay} {i v : Nat} {p : Pr} {n : PN}

theorem Here.met (h : Here c L P i v p n) (ck : CK c L P) (hc : c.kind = 0) (draw : Int) (ht : MetOk L) : MetOk (lstep L i draw) := by
  have hi := h.hi
  have hep := h.ep
  have hph := h.q.phase
  have hlive := h.live
  have hcq := ck.ci.cq i hi
  rw [hep] at hcq
  have hkp := hcq.kp
  have hq0 := ht i hi
  rw [hep] at hq0
  have hkd := h.q.kind
  have no : ∀ q : Pr, q.kind = p.kind → ¬ (q.phase = 6 ∨ q.phase = 7) → q.phase ≠ 14 → MetQ L.procs q := fun q _ a b => ⟨fun x => absurd x a, fun _ => b⟩
  have stay : ∀ q p' : Pr, p'.kind = p.kind → MetQ L.procs p' → MetOk ((L.setP i q).setP i p') := by
    intro q p' e1 e2
    refine met_one ht hi (pb := (L.procs.getD i (0, q)).1) (p' := p') ?_ (by rw [hep]; exact e1) e2
    show (L.procs.set i _).set i _ = _
    rw [List.set_set]
    congr 2
    simp [List.getD_eq_getElem?_getD, hi]
  have one : ∀ p' : Pr, p'.kind = p.kind → MetQ L.procs p' → MetOk (L.setP i p') := fun p' e1 e2 => met_one ht hi (pb := (L.procs.getD i (0, p')).1) (p' := p') rfl (by rw [hep]; exact e1) e2
  have any : ∀ (L' : Lay) (q p' : Pr), L'.procs = (L.setP i q).procs → p'.kind = p.kind → MetQ L.procs p' → MetOk (L'.setP i p') := by
    intro L' q p' e0 e1 e2
    refine met_one ht hi (pb := (L.procs.getD i (0, q)).1) (p' := p') ?_ (by rw [hep]; exact e1) e2
    show L'.procs.set i _ = _
    rw [e0]
    show (L.procs.set i _).set i _ = _
    rw [List.set_set]
    congr 2
    simp [List.getD_eq_getElem?_getD, hi]
  rw [h.lat draw, h.lget]
  simp only
  by_cases e8 : p.phase = 8
  · rw [if_pos e8]
    obtain ⟨j, hm, hj, hji⟩ := h.q.mind e8
    have ej : p.mind.toNat = j := by omega
    rw [ej, List.getElem?_eq_getElem hj]
    simp only
    split
    · have kp3 : p.kind < 3 := Int.not_le.1 fun x => by have := hkp.chg x; omega
      have kp0 : p.kind = 0 := by omega
      have hyj := ht j hj
      obtain ⟨y, hy⟩ : ∃ y, (L.procs[j]).2 = y := ⟨_, rfl⟩
      rw [hy] at hyj ⊢
      obtain ⟨y', hy'⟩ : ∃ y' : Pr, y' = { y with met := (i : Int) } := ⟨_, rfl⟩
      rw [← hy']
      have ks : (settledPr (incPr p) y 1).kind = p.kind := by
        unfold settledPr
        split
        · rfl
        · split <;> rfl
      have ps : ¬ ((settledPr (incPr p) y 1).phase = 6 ∨ (settledPr (incPr p) y 1).phase = 7) ∧ (settledPr (incPr p) y 1).phase ≠ 14 := by
        unfold settledPr
        split
        · show ¬ ((0 : Int) = 6 ∨ (0 : Int) = 7) ∧ (0 : Int) ≠ 14
          decide
        · split
          · show ¬ ((19 : Int) = 6 ∨ (19 : Int) = 7) ∧ (19 : Int) ≠ 14
            decide
          · show ¬ ((19 : Int) = 6 ∨ (19 : Int) = 7) ∧ (19 : Int) ≠ 14
            decide
      have kat : kindAt L.procs (i : Int) = 0 := by
        unfold kindAt
        simp [hi, hep, kp0]
      have qy' : MetQ L.procs y' := by
        rw [hy']
        exact ⟨fun _ _ => kat, hyj.2⟩
      have ky' : y'.kind = (L.procs[j]).2.kind := by rw [hy', hy]
      generalize settledPr (incPr p) y 1 = p' at *
      obtain ⟨a, b, eproc⟩ : ∃ a b, (((L.setP i (incPr p)).setP j y').setP i p').procs = (L.procs.set j (a, y')).set i (b, p') := by
        have e3 : ∀ x0 x1 x2 : Nat × Pr, ((L.procs.set i x0).set j x1).set i x2 = (L.procs.set j x1).set i x2 := by
          intro x0 x1 x2
          rw [List.set_comm _ _ (Ne.symm hji), List.set_set]
        exact ⟨_, _, e3 _ (_, y') (_, p')⟩
      have h1 : MetOk ({ L with procs := L.procs.set j (a, y') } : Lay) := met_one ht hj rfl ky' qy'
      have hij : i < ({ L with procs := L.procs.set j (a, y') } : Lay).procs.length := by simpa using hi
      have egi : (({ L with procs := L.procs.set j (a, y') } : Lay).procs[i]).2 = p := by
        show ((L.procs.set j (a, y'))[i]).2 = p
        rw [List.getElem_set_ne hji]
        exact hep
      exact met_one h1 hij eproc (by rw [egi]; exact ks) ⟨fun x => absurd x ps.1, fun _ => ps.2⟩
    · exact stay _ _ rfl (no _ rfl (by show ¬ ((9 : Int) = 6 ∨ (9 : Int) = 7); decide) (by show (9 : Int) ≠ 14; decide))
  rw [if_neg e8]
  by_cases e9 : p.phase = 9
  · rw [if_pos e9]
    exact any _ (incPr p) _ rfl rfl (no _ rfl (by show ¬ ((11 : Int) = 6 ∨ (11 : Int) = 7); decide) (by show (11 : Int) ≠ 14; decide))
  rw [if_neg e9]
  by_cases e10 : p.phase = 10
  · rw [if_pos e10]
    exact any _ (incPr p) _ rfl rfl (no _ rfl (by show ¬ ((11 : Int) = 6 ∨ (11 : Int) = 7); decide) (by show (11 : Int) ≠ 14; decide))
  rw [if_neg e10]
  by_cases e11 : p.phase = 11
  · rw [if_pos e11]
    exact any _ (incPr p) _ rfl rfl (no _ rfl (by show ¬ ((0 : Int) = 6 ∨ (0 : Int) = 7); decide) (by show (0 : Int) ≠ 14; decide))
  rw [if_neg e11]
  by_cases e12 : p.phase = 12
  · rw [if_pos e12]
    split
    · exact any _ (incPr p) _ rfl rfl (no _ rfl (by show ¬ ((19 : Int) = 6 ∨ (19 : Int) = 7); decide) (by show (19 : Int) ≠ 14; decide))
    · rename_i k0
      split
      · exact any _ (incPr p) _ rfl rfl (no _ rfl (by show ¬ ((13 : Int) = 6 ∨ (13 : Int) = 7); decide) (by show (13 : Int) ≠ 14; decide))
      · exact any _ (incPr p) _ rfl rfl ⟨fun x => absurd x (by show ¬ ((14 : Int) = 6 ∨ (14 : Int) = 7); decide), fun x => absurd x k0⟩
  rw [if_neg e12]
  by_cases e13 : p.phase = 13
  · rw [if_pos e13]
    split
    · exact any _ (incPr p) _ rfl rfl (no _ rfl (by show ¬ ((19 : Int) = 6 ∨ (19 : Int) = 7); decide) (by show (19 : Int) ≠ 14; decide))
    · exact one _ rfl (no _ rfl (by show ¬ (p.phase = 6 ∨ p.phase = 7); omega) (by show p.phase ≠ 14; omega))
  rw [if_neg e13]
  by_cases e14 : p.phase = 14
  · rw [if_pos e14]
    split
    · exact any _ (incPr p) _ rfl rfl (no _ rfl (by show ¬ ((19 : Int) = 6 ∨ (19 : Int) = 7); decide) (by show (19 : Int) ≠ 14; decide))
    · exact one _ rfl ⟨fun x => absurd x (by show ¬ (p.phase = 6 ∨ p.phase = 7); omega), fun x => hq0.2 x⟩
  rw [if_neg e14]
  have upp : ∀ q : Pr, q.kind = p.kind → q.phase = p.phase → ¬ (p.phase = 6 ∨ p.phase = 7) → MetQ L.procs (upPr q) := by
    intro q a b d
    have hup : (upPr q).phase = 19 ∨ (upPr q).phase = 20 := by
      unfold upPr
      simp only
      split
      · exact Or.inr rfl
      · exact Or.inl rfl
    exact ⟨fun x => by omega, fun _ => by omega⟩
  by_cases e17 : p.phase = 17
  · rw [if_pos e17]
    split
    · exact any _ (incPr p) _ rfl rfl (upp _ rfl rfl (by omega))
    · split
      · exact stay _ _ rfl (upp _ rfl rfl (by omega))
      · exact any _ (incPr p) _ rfl rfl (upp _ rfl rfl (by omega))
  rw [if_neg e17]
  have hmv : (lmove (L.setP i (incPr p)) v (incPr p) draw).kind = p.kind ∧ MetQ L.procs (lmove (L.setP i (incPr p)) v (incPr p) draw) := by
    unfold lmove
    have ein : (incPr p).phase = p.phase := rfl
    rw [ein]
    by_cases e0 : p.phase = 0
    · rw [if_pos e0]
      exact ⟨rfl, no _ rfl (by show ¬ ((1 : Int) = 6 ∨ (1 : Int) = 7); decide) (by show (1 : Int) ≠ 14; decide)⟩
    rw [if_neg e0]
    by_cases e1 : p.phase = 1
    · rw [if_pos e1]
      split
      · exact ⟨rfl, no _ rfl (by show ¬ ((2 : Int) = 6 ∨ (2 : Int) = 7); decide) (by show (2 : Int) ≠ 14; decide)⟩
      · split
        · refine ⟨rfl, no _ rfl ?_ ?_⟩
          · show ¬ ((if _ then (3 : Int) else 12) = 6 ∨ (if _ then (3 : Int) else 12) = 7)
            split <;> decide
          · show (if _ then (3 : Int) else 12) ≠ 14
            split <;> decide
        · split
          · refine ⟨rfl, no _ rfl ?_ ?_⟩
            · show ¬ ((if _ then (15 : Int) else 0) = 6 ∨ (if _ then (15 : Int) else 0) = 7)
              split <;> decide
            · show (if _ then (15 : Int) else 0) ≠ 14
              split <;> decide
          · exact ⟨rfl, no _ rfl (by show ¬ ((19 : Int) = 6 ∨ (19 : Int) = 7); decide) (by show (19 : Int) ≠ 14; decide)⟩
    rw [if_neg e1]
    by_cases e2 : p.phase = 2
    · rw [if_pos e2]
      exact ⟨rfl, no _ rfl (by show ¬ ((0 : Int) = 6 ∨ (0 : Int) = 7); decide) (by show (0 : Int) ≠ 14; decide)⟩
    rw [if_neg e2]
    by_cases e3 : p.phase = 3
    · rw [if_pos e3]
      exact ⟨rfl, no _ rfl (by show ¬ ((4 : Int) = 6 ∨ (4 : Int) = 7); decide) (by show (4 : Int) ≠ 14; decide)⟩
    rw [if_neg e3]
    by_cases e4 : p.phase = 4
    · rw [if_pos e4]
      split
      · exact ⟨rfl, no _ rfl (by show ¬ ((5 : Int) = 6 ∨ (5 : Int) = 7); decide) (by show (5 : Int) ≠ 14; decide)⟩
      · split
        · split
          · exact ⟨rfl, no _ rfl (by show ¬ ((11 : Int) = 6 ∨ (11 : Int) = 7); decide) (by show (11 : Int) ≠ 14; decide)⟩
          · exact ⟨rfl, no _ rfl (by show ¬ ((8 : Int) = 6 ∨ (8 : Int) = 7); decide) (by show (8 : Int) ≠ 14; decide)⟩
        · exact ⟨rfl, no _ rfl (by show ¬ (p.phase = 6 ∨ p.phase = 7); omega) (by show p.phase ≠ 14; omega)⟩
    rw [if_neg e4]
    by_cases e5 : p.phase = 5
    · rw [if_pos e5]
      split
      · exact ⟨rfl, ⟨fun _ x => absurd x (by show ¬ (0 : Int) ≤ -1; decide), fun _ => by show (6 : Int) ≠ 14; decide⟩⟩
      · exact ⟨rfl, no _ rfl (by show ¬ ((9 : Int) = 6 ∨ (9 : Int) = 7); decide) (by show (9 : Int) ≠ 14; decide)⟩
    rw [if_neg e5]
    by_cases e6 : p.phase = 6
    · rw [if_pos e6]
      unfold waitPr
      split
      · exact ⟨rfl, ⟨fun _ x => hq0.1 (Or.inl e6) x, fun _ => by show (7 : Int) ≠ 14; decide⟩⟩
      · split
        · exact ⟨rfl, ⟨fun _ x => hq0.1 (Or.inl e6) x, fun _ => by show p.phase ≠ 14; omega⟩⟩
        · exact ⟨rfl, no _ rfl (by show ¬ ((10 : Int) = 6 ∨ (10 : Int) = 7); decide) (by show (10 : Int) ≠ 14; decide)⟩
    rw [if_neg e6]
    by_cases e7 : p.phase = 7
    · rw [if_pos e7]
      split
      · unfold settledPr
        split
        · exact ⟨rfl, no _ rfl (by show ¬ ((0 : Int) = 6 ∨ (0 : Int) = 7); decide) (by show (0 : Int) ≠ 14; decide)⟩
        · split
          · exact ⟨rfl, no _ rfl (by show ¬ ((19 : Int) = 6 ∨ (19 : Int) = 7); decide) (by show (19 : Int) ≠ 14; decide)⟩
          · exact ⟨rfl, no _ rfl (by show ¬ ((19 : Int) = 6 ∨ (19 : Int) = 7); decide) (by show (19 : Int) ≠ 14; decide)⟩
      · exact ⟨rfl, ⟨fun _ x => hq0.1 (Or.inr e7) x, fun _ => by show p.phase ≠ 14; omega⟩⟩
    rw [if_neg e7]
    by_cases e15 : p.phase = 15
    · rw [if_pos e15]
      unfold shutCh
      split
      · exact ⟨rfl, upp _ rfl rfl (by omega)⟩
      · exact ⟨rfl, no _ rfl (by show ¬ ((16 : Int) = 6 ∨ (16 : Int) = 7); decide) (by show (16 : Int) ≠ 14; decide)⟩
    rw [if_neg e15]
    by_cases e16 : p.phase = 16
    · rw [if_pos e16]
      unfold drainCh
      split
      · exact ⟨rfl, no _ rfl (by show ¬ ((17 : Int) = 6 ∨ (17 : Int) = 7); decide) (by show (17 : Int) ≠ 14; decide)⟩
      · split
        · exact ⟨rfl, no _ rfl (by show ¬ (p.phase = 6 ∨ p.phase = 7); omega) (by show p.phase ≠ 14; omega)⟩
        · exact ⟨rfl, no _ rfl (by show ¬ ((18 : Int) = 6 ∨ (18 : Int) = 7); decide) (by show (18 : Int) ≠ 14; decide)⟩
    rw [if_neg e16]
    by_cases e18 : p.phase = 18
    · rw [if_pos e18]
      exact ⟨rfl, upp _ rfl rfl (by omega)⟩
    rw [if_neg e18]
    by_cases e19 : p.phase = 19
    · rw [if_pos e19]
      exact ⟨rfl, upp _ rfl rfl (by omega)⟩
    omega
  exact stay _ _ hmv.1 hmv.2
end

end Go.Proofs.Ytjnmpejcegmkhaa

namespace Go.Proofs.Ytjnmpejcegmkhaa
open Go.RowKit

section
variable {c : Conf} {L : Lay} {P : PLay} {i v : Nat} {p : Pr} {n : PN}

/-- An Inc of a counter ends at a Ticket, or has ended. -/
theorem Here.ends (h : Here c L P i v p n) (ck : CK c L P) (hc : c.kind = 0) (draw : Int) (hm : MetOk L) {p' : Pr} (hw : Went L i v p p' (lstep L i draw)) (k0 : p.kind = 0) (he : p'.phase = 19 ∨ p'.phase = 20) : p.phase = 12 ∨ p.phase = 19 := by
  have hi := h.hi
  have hep := h.ep
  have ha := h.at'
  have hph := h.q.phase
  have hlive := h.live
  have hcq := ck.ci.cq i hi
  rw [hep] at hcq
  have hkp := hcq.kp
  have hq0 := hm i hi
  rw [hep] at hq0
  have hpm := hw.pm
  have w15 := hkp.walk (by omega)
  have t13 := h.q.tick.2.2
  have n14 := hq0.2 k0
  have hcand : p.phase = 1 ∨ p.phase = 7 ∨ p.phase = 8 ∨ p.phase = 12 ∨ p.phase = 19 := by
    have : p.phase = 1 ∨ p.phase = 7 ∨ p.phase = 8 ∨ p.phase = 12 ∨ p.phase = 13 ∨ p.phase = 14 ∨ p.phase = 15 ∨ p.phase = 17 ∨ p.phase = 18 ∨ p.phase = 19 := by
      generalize p.phase = a at *
      generalize p'.phase = b at *
      generalize p'.node = nd at *
      clear t13 n14 w15 hq0 hkp hcq
      cases hpm <;> omega
    have x13 : p.phase ≠ 13 := fun e => by have := (t13 e).1; omega
    omega
  have e2 : ∀ q : Pr, toPPs ((L.setP i (incPr p)).setP i q).procs = (toPPs L.procs).set i (toPP q) := by
    intro q
    rw [toPPs_setP, toPPs_setP, List.set_set]
  have hpr := hw.procs
  rcases hcand with e1 | e7 | e8 | e | e
  · exfalso
    have el : lstep L i draw = (L.setP i (incPr p)).setP i (lmove (L.setP i (incPr p)) v (incPr p) draw) := by
      rw [h.lat draw, h.lget]
      simp only
      rw [if_neg (by omega), if_neg (by omega), if_neg (by omega), if_neg (by omega), if_neg (by omega), if_neg (by omega), if_neg (by omega), if_neg (by omega)]
    rw [el, e2] at hpr
    have hp' := (pp_told (toPPs_setP_get (by rw [toPPs_len]; exact hi) hpr).symm).2.2.2.1
    rw [hp'] at he
    revert he
    unfold lmove
    have ein : (incPr p).phase = p.phase := rfl
    rw [ein, if_neg (by omega), if_pos e1]
    split
    · show ¬ ((2 : Int) = 19 ∨ (2 : Int) = 20)
      decide
    · rw [if_pos (show (incPr p).kind < 3 by show p.kind < 3; omega)]
      show ¬ ((if _ then (3 : Int) else 12) = 19 ∨ (if _ then (3 : Int) else 12) = 20)
      split <;> decide
  · exfalso
    have el : lstep L i draw = (L.setP i (incPr p)).setP i (lmove (L.setP i (incPr p)) v (incPr p) draw) := by
      rw [h.lat draw, h.lget]
      simp only
      rw [if_neg (by omega), if_neg (by omega), if_neg (by omega), if_neg (by omega), if_neg (by omega), if_neg (by omega), if_neg (by omega), if_neg (by omega)]
    rw [el, e2] at hpr
    have hp' := (pp_told (toPPs_setP_get (by rw [toPPs_len]; exact hi) hpr).symm).2.2.2.1
    rw [hp'] at he
    revert he
    unfold lmove
    have ein : (incPr p).phase = p.phase := rfl
    rw [ein, if_neg (by omega), if_neg (by omega), if_neg (by omega), if_neg (by omega), if_neg (by omega), if_neg (by omega), if_neg (by omega), if_pos e7]
    obtain ⟨k, hk, hs⟩ := h.slotk
    have hf := h.inner (by omega) (by omega)
    have hsr := h.slotRel hf hk
    have hwi : waitP v k (L.procs[i]).2 = true := by
      rw [hep]
      unfold waitP
      simp [ha, hs, e7]
    obtain ⟨b, hb, hbl⟩ : ∃ b : Nat, p.met = (b : Int) ∧ b < L.procs.length := by
      rcases hsr with ⟨_, x⟩ | ⟨j, hj, _, _, x3, x4⟩
      · rw [x i hi] at hwi
        exact absurd hwi (by decide)
      · have eij := x3 i hi hwi
        subst eij
        rw [hep] at x4
        rcases x4 with x4 | ⟨_, b, _, x5, x6, _⟩
        · omega
        · exact ⟨b, x5, x6⟩
    have hkat := hq0.1 (Or.inr e7) (by omega)
    have kb : (L.procs[b]).2.kind = 0 := by
      unfold kindAt at hkat
      rw [hb] at hkat
      simpa [hbl] using hkat
    have eM : ∃ y, (L.setP i (incPr p)).procs[(incPr p).met.toNat]? = some y ∧ y.2.kind = 0 := by
      have em : (incPr p).met.toNat = b := by show p.met.toNat = b; omega
      rw [em]
      by_cases eb : b = i
      · subst eb
        refine ⟨((L.procs.getD b (0, incPr p)).1, incPr p), ?_, k0⟩
        show (L.procs.set b _)[b]? = _
        rw [List.getElem?_set_self hi]
      · refine ⟨L.procs[b], ?_, kb⟩
        show (L.procs.set i _)[b]? = _
        rw [List.getElem?_set_ne (Ne.symm eb), List.getElem?_eq_getElem hbl]
    obtain ⟨y, ey, ky⟩ := eM
    rw [ey]
    simp only
    unfold settledPr
    rw [if_pos (show ({ incPr p with met := -1 } : Pr).kind = y.2.kind by rw [ky]; exact k0)]
    show ¬ ((0 : Int) = 19 ∨ (0 : Int) = 20)
    decide
  · exfalso
    obtain ⟨j, hmj, hj, hji⟩ := h.q.mind e8
    have ej : p.mind.toNat = j := by omega
    by_cases hme : meets (L.setP i (incPr p)) (incPr p) (L.procs[j]).2 = true
    · have el : lstep L i draw = ((L.setP i (incPr p)).setP j { (L.procs[j]).2 with met := (i : Int) }).setP i (settledPr (incPr p) (L.procs[j]).2 1) := by
        rw [h.lat draw, h.lget]
        simp only
        rw [if_pos e8, ej, List.getElem?_eq_getElem hj]
        simp only
        rw [if_pos hme]
      have y6 : (L.procs[j]).2.phase = 6 := by
        unfold meets at hme
        simp only [Bool.and_eq_true, decide_eq_true_eq] at hme
        exact hme.1.2
      have hqj := (h.rel.qs j hj).kind
      have hkj := (ck.ci.cq j hj).kp
      have kj3 : (L.procs[j]).2.kind < 3 := Int.not_le.1 fun x => by have := hkj.chg x; omega
      have kj0 : (L.procs[j]).2.kind = 0 := by omega
      have hi' : i < (lstep L i draw).procs.length := by rw [went_len hw]; exact hi
      have hs := went_self hw hi'
      have hl : ∀ (M : Lay) (hM : M = ((L.setP i (incPr p)).setP j { (L.procs[j]).2 with met := (i : Int) }).setP i (settledPr (incPr p) (L.procs[j]).2 1)) (hx : i < M.procs.length), (M.procs[i]).2 = settledPr (incPr p) (L.procs[j]).2 1 := by
        intro M hM hx
        subst hM
        show ((((L.procs.set i _).set j _).set i _)[i]).2 = _
        rw [List.getElem_set_self]
      rw [hl _ el hi'] at hs
      have hp' := (pp_told hs).2.2.2.1
      rw [← hp'] at he
      revert he
      unfold settledPr
      rw [if_pos (show (incPr p).kind = (L.procs[j]).2.kind by rw [kj0]; exact k0)]
      show ¬ ((0 : Int) = 19 ∨ (0 : Int) = 20)
      decide
    · have el : lstep L i draw = (L.setP i (incPr p)).setP i { incPr p with phase := 9 } := by
        rw [h.lat draw, h.lget]
        simp only
        rw [if_pos e8, ej, List.getElem?_eq_getElem hj]
        simp only
        rw [if_neg hme]
      rw [el, e2] at hpr
      have hp' := (pp_told (toPPs_setP_get (by rw [toPPs_len]; exact hi) hpr).symm).2.2.2.1
      rw [hp'] at he
      revert he
      show ¬ ((9 : Int) = 19 ∨ (9 : Int) = 20)
      decide
  · exact Or.inl e
  · exact Or.inr e

theorem Here.num_over (h : Here c L P i v p n) (hr : CRel c L P) (hc : c.kind = 0) (draw : Int) (hm : MetOk L) (hn : NumOk L) (h17 : p.phase ≠ 17) : NumOk (lstep L i draw) := by
  obtain ⟨p', hw⟩ := h.went hr.ck draw
  have hi := h.hi
  have hep := h.ep
  have hlen := went_len hw
  have hov := h.over draw h17
  have hN := hr.rel.lenle
  have hv := h.vN
  -- who has ended: as before, or the one that took a number
  have key : ∀ j, (hj : j < (lstep L i draw).procs.length) → endedI (toPP ((lstep L i draw).procs[j]).2) →
      (∃ hj0 : j < L.procs.length, endedI (toPP (L.procs[j]).2) ∧ ((lstep L i draw).procs[j]).2.val = (L.procs[j]).2.val) ∨
      (j = i ∧ formH (L.hist v) = 2 ∧ ((lstep L i draw).procs[j]).2.val = (rank v : Int) + putsH (L.hist v) * 2 ^ Nat.log2 v ∧ putsH ((lstep L i draw).hist v) = putsH (L.hist v) + 1) := by
    intro j hj he
    have hj0 : j < L.procs.length := by omega
    by_cases e : j = i
    · subst e
      have hs := went_self hw hj
      rw [hs] at he
      have hval := (pp_told hs).2.2.2.2.2.1
      have k0 : p.kind = 0 := by rw [← hw.op.1]; exact he.1
      rcases h.ends hr.ck hc draw hm hw k0 he.2 with e12 | e19
      · obtain ⟨a, b⟩ := h.val12 draw hw e12 k0
        exact Or.inr ⟨rfl, h.isLeaf (by omega) (by omega), by rw [hval]; exact a, b⟩
      · refine Or.inl ⟨hj0, ?_, ?_⟩
        · rw [hep]
          exact ⟨k0, Or.inl e19⟩
        · rw [hval, hep]
          exact h.val19 draw hw e19
    · have ho := went_other hw j hj0 hj e
      rw [ho] at he
      exact Or.inl ⟨hj0, he, (pp_told ho).2.2.2.2.2.1⟩
  have hpos : 0 ≤ putsH (L.hist v) := by
    have := hr.rel.fn v hv
    unfold putsH
    omega
  have clash : ∀ x : Int, Iss L x → formH (L.hist v) = 2 → x ≠ (rank v : Int) + putsH (L.hist v) * 2 ^ Nat.log2 v := by
    rintro x ⟨u, t, u1, hu, hf, rfl, ht⟩ hfv
    obtain ⟨s, hs⟩ := Int.eq_ofNat_of_zero_le hpos
    rw [hs]
    by_cases e : u = v
    · subst e
      rw [hs] at ht
      intro e
      have hlt : (t : Int) * 2 ^ Nat.log2 u < (s : Int) * 2 ^ Nat.log2 u := by
        have hp : (0 : Int) < 2 ^ Nat.log2 u := by
          have := Nat.two_pow_pos (Nat.log2 u)
          have e2 : ((2 ^ Nat.log2 u : Nat) : Int) = 2 ^ Nat.log2 u := by push_cast; rfl
          omega
        exact Int.mul_lt_mul_of_pos_right ht hp
      omega
    · exact num_apart (by omega) h.v32 u1 h.v1 e (leaf_apart hr u1 hu hf hv h.f3 (Ne.symm e)) (leaf_apart hr h.v1 hv hfv hu (by rw [hf]; decide) e) t s
  refine ⟨fun j hj he => ?_, fun j k hj hk hne hej hek => ?_⟩
  · rcases key j hj he with ⟨hj0, a, b⟩ | ⟨_, a, b, d⟩
    · rw [b]
      exact Iss.over hw.past hov (hn.iss j hj0 a)
    · obtain ⟨s, hs⟩ := Int.eq_ofNat_of_zero_le hpos
      refine ⟨v, s, h.v1, by rw [hw.past]; exact hv, by rw [(hov v).1]; exact a, by rw [b, hs], by rw [d, hs]; show (s : Int) < (s : Int) + 1; omega⟩
  · rcases key j hj hej with ⟨hj0, a, b⟩ | ⟨ej, a, b, _⟩
    · rcases key k hk hek with ⟨hk0, a', b'⟩ | ⟨ek, a', b', _⟩
      · rw [b, b']
        exact hn.diff j k hj0 hk0 hne a a'
      · rw [b, b']
        exact clash _ (hn.iss j hj0 a) a'
    · rcases key k hk hek with ⟨hk0, a', b'⟩ | ⟨ek, a', b', _⟩
      · rw [b, b']
        exact fun e => clash _ (hn.iss k hk0 a') a e.symm
      · omega
end

end Go.Proofs.Ytjnmpejcegmkhaa

namespace Go.Proofs.Ytjnmpejcegmkhaa
open Go.RowKit

theorem leaf_ev (l : Hist) (m : Int) (its : List Int) (iv : Value) : formH ((⟨2, m, 0, its⟩, iv) :: l) = 2 ∧ putsH ((⟨2, m, 0, its⟩, iv) :: l) = m := by
  constructor
  · simp [formH]
  · simp [putsH, fromH, manyH]

section
variable {c : Conf} {L : Lay} {P : PLay} {i v : Nat} {p : Pr} {n : PN}

theorem Here.iss17 (h : Here c L P i v p n) (hr : CRel c L P) (hc : c.kind = 0) (draw : Int) (h17 : p.phase = 17) {x : Int} (hx : Iss L x) : Iss (lstep L i draw) x := by
  have ck := hr.ck
  have tg := h.target17 ck h17
  have hkid := tg.kid
  have h1v := h.v1
  have hv := h.vN
  have hv32 := h.v32
  have hcL := h.rel.cL
  have hkd := hr.ck.ci.cq i h.hi
  rw [h.ep] at hkd
  have hk3 : 3 ≤ p.kind := Int.not_lt.1 fun x => hkd.kp.walk x (by omega)
  obtain ⟨k1, k2, k3, k4, _, _⟩ := rank_kid ⟨v, hv32⟩ h1v
  simp only at k1 k2 k3 k4
  obtain ⟨u, t, u1, hu, hf, rfl, ht⟩ := hx
  rw [h.lat draw, h.lget]
  simp only
  rw [if_neg (by omega), if_neg (by omega), if_neg (by omega), if_neg (by omega), if_neg (by omega), if_neg (by omega), if_neg (by omega), if_pos h17]
  split
  · have hfv : formH (L.hist v) = 2 := by rw [tg.form, if_neg (by omega)]
    have hno : ∀ w, w / 2 = v → 2 ≤ w → w < L.past.length → formH (L.hist w) = 3 := by
      intro w hw h2 hwN
      by_cases f : formH (L.hist w) = 3
      · exact f
      · have := ck.ci.par w h2 hwN f
        rw [hw] at this
        omega
    have f0 := hno (2 * v) (by omega) (by omega) (by omega)
    have f1 := hno (2 * v + 1) (by omega) (by omega) hkid
    have hN : unfN (L.setP i (incPr p)) v = putsH (L.hist v) := by
      unfold unfN
      show (if L.c.kind = 0 then putsH (L.hist v) else _) = _
      rw [hcL, if_pos hc]
    generalize hL' : ((L.setP i (incPr p)).unfolded v nilV nilV nilV nilV nilV).setP i (upPr { incPr p with val := 1 }) = L'
    have hlen : L'.past.length = L.past.length := by rw [← hL']; simp
    have hst : ∀ w, w ≠ v → w ≠ 2 * v → w ≠ 2 * v + 1 → L'.hist w = L.hist w := by
      intro w a b d
      rw [← hL']
      show ((L.setP i (incPr p)).unfolded v nilV nilV nilV nilV nilV).hist w = L.hist w
      unfold Lay.unfolded
      rw [hap_hist _ _ _ _ _ _ (by simp; omega) d, hap_hist _ _ _ _ _ _ (by simp; omega) b, hap_hist _ _ _ _ _ _ (by exact hv) a]
      rfl
    have hs0 : ∃ its, L'.hist (2 * v) = (⟨2, (putsH (L.hist v) + 1) / 2, 0, its⟩, nilV) :: L.hist (2 * v) := by
      refine ⟨evT (itemsH (L.hist v)) (itemsH (L.hist v)).length, ?_⟩
      rw [← hL']
      show ((L.setP i (incPr p)).unfolded v nilV nilV nilV nilV nilV).hist (2 * v) = _
      unfold Lay.unfolded
      rw [hap_hist _ _ _ _ _ _ (by simp; omega) (by omega), hist_hap _ _ _ _ _ _ (by simp; omega), if_pos rfl, hap_hist _ _ _ _ _ _ (by exact hv) (by omega), hN]
      rfl
    have hs1 : ∃ its, L'.hist (2 * v + 1) = (⟨2, putsH (L.hist v) / 2, 0, its⟩, nilV) :: L.hist (2 * v + 1) := by
      refine ⟨odT (itemsH (L.hist v)) (itemsH (L.hist v)).length, ?_⟩
      rw [← hL']
      show ((L.setP i (incPr p)).unfolded v nilV nilV nilV nilV nilV).hist (2 * v + 1) = _
      unfold Lay.unfolded
      rw [hist_hap _ _ _ _ _ _ (by simp; omega), if_pos rfl, hap_hist _ _ _ _ _ _ (by simp; omega) (by omega), hap_hist _ _ _ _ _ _ (by exact hv) (by omega), hN]
      rfl
    obtain ⟨i0, hs0⟩ := hs0
    obtain ⟨i1, hs1⟩ := hs1
    by_cases eu : u = v
    · subst eu
      have l0 := leaf_ev (L.hist (2 * u)) ((putsH (L.hist u) + 1) / 2) i0 nilV
      have l1 := leaf_ev (L.hist (2 * u + 1)) (putsH (L.hist u) / 2) i1 nilV
      rw [← hs0] at l0
      rw [← hs1] at l1
      have hpw : (2 : Int) ^ (Nat.log2 u + 1) = 2 * 2 ^ Nat.log2 u := by rw [Int.pow_succ]; omega
      by_cases ev : t % 2 = 0
      · refine ⟨2 * u, t / 2, by omega, by omega, l0.1, ?_, by rw [l0.2]; omega⟩
        rw [k1, k3, hpw]
        have e : (t : Int) = 2 * ((t / 2 : Nat) : Int) := by omega
        rw [show (t : Int) * 2 ^ Nat.log2 u = (2 * ((t / 2 : Nat) : Int)) * 2 ^ Nat.log2 u by rw [← e]]
        rw [Int.mul_comm 2 ((t / 2 : Nat) : Int), Int.mul_assoc]
      · refine ⟨2 * u + 1, t / 2, by omega, by rw [hlen]; exact hkid, l1.1, ?_, by rw [l1.2]; omega⟩
        rw [k2, k4, hpw]
        have e : (t : Int) = 2 * ((t / 2 : Nat) : Int) + 1 := by omega
        rw [show (t : Int) * 2 ^ Nat.log2 u = (2 * ((t / 2 : Nat) : Int) + 1) * 2 ^ Nat.log2 u by rw [← e]]
        rw [Int.add_mul, Int.mul_comm 2 ((t / 2 : Nat) : Int), Int.mul_assoc]
        push_cast
        omega
    · have n0 : u ≠ 2 * v := fun e => by rw [e, f0] at hf; omega
      have n1 : u ≠ 2 * v + 1 := fun e => by rw [e, f1] at hf; omega
      have es := hst u eu n0 n1
      exact ⟨u, t, u1, by omega, by rw [es]; exact hf, rfl, by rw [es]; exact ht⟩
  · split
    · exact ⟨u, t, u1, hu, hf, rfl, ht⟩
    · rename_i hk4 hno
      have k3' : p.kind = 3 := by have := hkd.kinds; omega
      have hfv : formH (L.hist v) = 1 := by rw [tg.form, if_pos k3']
      obtain ⟨kk1, kk2, kk3⟩ := h.rel.kids v h1v hv hfv
      have r0 := (h.rel.nodes (2 * v) (by omega) (by omega)).form
      have r1 := (h.rel.nodes (2 * v + 1) (by omega) hkid).form
      have f0 : formH (L.hist (2 * v)) = 2 := by omega
      have f1 : formH (L.hist (2 * v + 1)) = 2 := by omega
      have c0 := h.bal_count ck tg hc _ (Or.inr (Or.inl rfl)) f0
      have c1 := h.bal_count ck tg hc _ (Or.inr (Or.inr rfl)) f1
      have htog : balH (L.hist (2 * v)) - balH (L.hist (2 * v + 1)) = togH (L.hist v) := by
        have hl := h.rel.lenle
        have e := ck.ci.even v h1v hv hfv
        rw [even_quiet hkid (by omega) h1v ?_ tg.even] at e
        · omega
        · intro w hw w0 w1 hs
          exact leaf_below (by omega) h.v32 h1v ck.ci.par (fun x => x = 2 * v ∨ x = 2 * v + 1) (Or.inr (fun x hx => by omega)) (fun x hx => by rcases hx with e | e <;> rw [e] <;> omega) w hw hs (by omega)
      have ht01 : togH (L.hist v) = 0 ∨ togH (L.hist v) = 1 := by unfold togH; omega
      have hN : foldN (L.setP i (incPr p)) v = putsH (L.hist (2 * v)) + putsH (L.hist (2 * v + 1)) := by
        unfold foldN
        show (if L.c.kind = 0 then putsH (L.hist (2 * v)) + putsH (L.hist (2 * v + 1)) else _) = _
        rw [hcL, if_pos hc]
      generalize hL' : ((L.setP i (incPr p)).folded v nilV nilV nilV nilV).setP i (upPr { incPr p with val := 1 }) = L'
      have hlen : L'.past.length = L.past.length := by rw [← hL']; simp
      have hst : ∀ w, w ≠ v → w ≠ 2 * v → w ≠ 2 * v + 1 → L'.hist w = L.hist w := by
        intro w a b d
        rw [← hL']
        show ((L.setP i (incPr p)).folded v nilV nilV nilV nilV).hist w = L.hist w
        unfold Lay.folded
        rw [hap_hist _ _ _ _ _ _ (by simp; omega) a, hap_hist _ _ _ _ _ _ (by simp; omega) d, hap_hist _ _ _ _ _ _ (by simp; omega) b]
        rfl
      have hsv : L'.hist v = (⟨2, putsH (L.hist (2 * v)) + putsH (L.hist (2 * v + 1)), 0, alt (itemsH (L.hist (2 * v))) (itemsH (L.hist (2 * v + 1)))⟩, nilV) :: L.hist v := by
        rw [← hL']
        show ((L.setP i (incPr p)).folded v nilV nilV nilV nilV).hist v = _
        unfold Lay.folded
        rw [hist_hap _ _ _ _ _ _ (by simp; omega), if_pos rfl, hap_hist _ _ _ _ _ _ (by simp; omega) (by omega), hap_hist _ _ _ _ _ _ (by simp; omega) (by omega), hN]
        rfl
      have lv := leaf_ev (L.hist v) (putsH (L.hist (2 * v)) + putsH (L.hist (2 * v + 1))) (alt (itemsH (L.hist (2 * v))) (itemsH (L.hist (2 * v + 1)))) nilV
      rw [← hsv] at lv
      have hpw : (2 : Int) ^ (Nat.log2 v + 1) = 2 * 2 ^ Nat.log2 v := by rw [Int.pow_succ]; omega
      by_cases e0 : u = 2 * v
      · subst e0
        refine ⟨v, 2 * t, h1v, by omega, lv.1, ?_, by rw [lv.2]; push_cast; omega⟩
        rw [k1, k3, hpw]
        push_cast
        rw [Int.mul_comm 2 (t : Int), Int.mul_assoc]
      · by_cases e1 : u = 2 * v + 1
        · subst e1
          refine ⟨v, 2 * t + 1, h1v, by omega, lv.1, ?_, by rw [lv.2]; push_cast; omega⟩
          rw [k2, k4, hpw]
          push_cast
          rw [Int.add_mul, Int.mul_comm 2 (t : Int), Int.mul_assoc]
          omega
        · have nv : u ≠ v := fun e => by rw [e, hfv] at hf; omega
          have es := hst u nv e0 e1
          exact ⟨u, t, u1, by omega, by rw [es]; exact hf, rfl, by rw [es]; exact ht⟩

theorem Here.num (h : Here c L P i v p n) (hr : CRel c L P) (hc : c.kind = 0) (draw : Int) (hm : MetOk L) (hn : NumOk L) : NumOk (lstep L i draw) := by
  by_cases h17 : p.phase = 17
  · obtain ⟨p', hw⟩ := h.went hr.ck draw
    have hlen := went_len hw
    have hkd := hr.ck.ci.cq i h.hi
    rw [h.ep] at hkd
    have hk3 : 3 ≤ p.kind := Int.not_lt.1 fun x => hkd.kp.walk x (by omega)
    have key : ∀ j, (hj : j < (lstep L i draw).procs.length) → endedI (toPP ((lstep L i draw).procs[j]).2) → ∃ hj0 : j < L.procs.length, endedI (toPP (L.procs[j]).2) ∧ ((lstep L i draw).procs[j]).2.val = (L.procs[j]).2.val := by
      intro j hj he
      have hj0 : j < L.procs.length := by omega
      by_cases e : j = i
      · subst e
        exfalso
        rw [went_self hw hj] at he
        have : p'.kind = 0 := he.1
        rw [hw.op.1] at this
        omega
      · have ho := went_other hw j hj0 hj e
        rw [ho] at he
        exact ⟨hj0, he, (pp_told ho).2.2.2.2.2.1⟩
    refine ⟨fun j hj he => ?_, fun j k hj hk hne hej hek => ?_⟩
    · obtain ⟨hj0, a, b⟩ := key j hj he
      rw [b]
      exact h.iss17 hr hc draw h17 (hn.iss j hj0 a)
    · obtain ⟨hj0, a, b⟩ := key j hj hej
      obtain ⟨hk0, a', b'⟩ := key k hk hek
      rw [b, b']
      exact hn.diff j k hj0 hk0 hne a a'
  · exact h.num_over hr hc draw hm hn h17
end

end Go.Proofs.Ytjnmpejcegmkhaa

namespace Go.Proofs.Ytjnmpejcegmkhaa
open Go.RowKit

theorem sumP_add (f g : Pr → Int) : ∀ ps : Ps, sumP (fun p => f p + g p) ps = sumP f ps + sumP g ps
  | [] => rfl
  | y :: r => by simp only [sumP]; rw [sumP_add f g r]; omega
theorem sumP_sub (f g : Pr → Int) : ∀ ps : Ps, sumP (fun p => f p - g p) ps = sumP f ps - sumP g ps
  | [] => rfl
  | y :: r => by simp only [sumP]; rw [sumP_sub f g r]; omega
theorem sumP_mono (f g : Pr → Int) : ∀ ps : Ps, (∀ i, (hi : i < ps.length) → f (ps[i]).2 ≤ g (ps[i]).2) → sumP f ps ≤ sumP g ps
  | [], _ => Int.le_refl _
  | y :: r, h => by
    have h0 := h 0 (by simp)
    simp only [List.getElem_cons_zero] at h0
    have := sumP_mono f g r fun i hi => by have := h (i + 1) (by simpa using hi); simpa using this
    simp only [sumP]
    omega

/-- What lies below u, or is on its way there. -/
def tkS (L : Lay) (u : Nat) : Int := sumP (fun p => if undB u p.node.toNat = true then tokP L.procs p else 0) L.procs
def allS (L : Lay) (u : Nat) : Int := subS L u + tkS L u
def ownS (L : Lay) (u : Nat) : Int := sumP (fun p => if p.node.toNat = u then tokP L.procs p else 0) L.procs

section
variable {c : Conf} {L : Lay} {P : PLay}

theorem tok_nonneg (h : CRel c L P) (hc : c.kind = 0) (i : Nat) (hi : i < L.procs.length) : 0 ≤ tokP L.procs (L.procs[i]).2 ∧ 0 ≤ sgn (L.procs[i]).2.kind := by
  have hk := (h.rel.qs i hi).kind
  have hs : 0 ≤ sgn (L.procs[i]).2.kind := by
    unfold sgn
    rw [if_neg (by omega)]
    split <;> omega
  refine ⟨?_, hs⟩
  unfold tokP
  split
  · split
    · omega
    · exact hs
  · omega

theorem all_split (h : CRel c L P) (hc : c.kind = 0) {u : Nat} (h1 : 1 ≤ u) (hu : u < L.past.length) (hf : formH (L.hist u) = 1) : 2 * allS L (2 * u) ≤ allS L u + 1 ∧ 2 * allS L (2 * u + 1) ≤ allS L u := by
  have hN := h.rel.lenle
  have hk := (h.rel.kids u h1 hu hf).1
  have e := h.ck.ci.even u h1 hu hf
  obtain ⟨a, b⟩ := sub_split (L := L) (by omega) h1 hk
  have hb : balH (L.hist u) = 0 := by unfold balH; rw [hf]; simp
  have hn32 : ∀ i, (hi : i < L.procs.length) → (L.procs[i]).2.node.toNat < 32 := by
    intro i hi
    by_cases h20 : (L.procs[i]).2.phase = 20
    · rw [(h.rel.qs i hi).done h20]; decide
    · obtain ⟨w, x1, x2, x3, _⟩ := (h.rel.qs i hi).live h20
      omega
  have t1 : tkS L u = ownS L u + (tkS L (2 * u) + tkS L (2 * u + 1)) := by
    unfold tkS ownS
    rw [← sumP_add, ← sumP_add]
    refine sumP_congr _ _ _ fun i hi => ?_
    obtain ⟨x1, x2, x3, x4⟩ := und_facts ⟨u, by omega⟩ ⟨(L.procs[i]).2.node.toNat, hn32 i hi⟩ h1
    simp only at x1 x2 x3 x4
    rw [x1]
    by_cases ew : (L.procs[i]).2.node.toNat = u
    · simp [ew, x3, x4]
    · simp only [ew, decide_false, Bool.false_or, if_false]
      cases y1 : undB (2 * u) (L.procs[i]).2.node.toNat <;> cases y2 : undB (2 * u + 1) (L.procs[i]).2.node.toNat
      · simp
      · simp
      · simp
      · exact absurd ⟨y1, y2⟩ x2
  have t2 : sumP (eP L.procs u) L.procs = tkS L (2 * u) - tkS L (2 * u + 1) + sumP (wcP L.procs u) L.procs := by
    unfold tkS
    rw [← sumP_sub, ← sumP_add]
    refine sumP_congr _ _ _ fun i hi => ?_
    obtain ⟨_, x2, _, _⟩ := und_facts ⟨u, by omega⟩ ⟨(L.procs[i]).2.node.toNat, hn32 i hi⟩ h1
    simp only at x2
    have es : side u (L.procs[i]).2.node.toNat = if undB (2 * u) (L.procs[i]).2.node.toNat = true then 1 else if undB (2 * u + 1) (L.procs[i]).2.node.toNat = true then -1 else 0 := by
      unfold side undB
      simp only [decide_eq_true_eq]
    unfold eP
    rw [es]
    cases y1 : undB (2 * u) (L.procs[i]).2.node.toNat <;> cases y2 : undB (2 * u + 1) (L.procs[i]).2.node.toNat
    · simp
    · simp
    · simp
    · exact absurd ⟨y1, y2⟩ x2
  have w1 : sumP (wcP L.procs u) L.procs ≤ ownS L u := by
    unfold ownS
    refine sumP_mono _ _ _ fun i hi => ?_
    have tn := tok_nonneg h hc i hi
    unfold wcP
    split
    · rename_i hx
      have hnu : (L.procs[i]).2.node.toNat = u := by omega
      rw [if_pos hnu]
      have hph : (L.procs[i]).2.phase = 6 ∨ (L.procs[i]).2.phase = 7 := by
        have := hx.2.1
        unfold metB at this
        simp only [Bool.and_eq_true, Bool.or_eq_true, decide_eq_true_eq] at this
        exact this.1
      have hme : 0 ≤ (L.procs[i]).2.met := by
        have := hx.2.1
        unfold metB at this
        simp only [Bool.and_eq_true, Bool.or_eq_true, decide_eq_true_eq] at this
        exact this.2
      rw [tokP_met hph hme, if_pos hx.2.2]
      exact Int.le_refl _
    · split
      · exact tn.1
      · exact Int.le_refl _
  have w0 : 0 ≤ sumP (wcP L.procs u) L.procs := by
    have := sumP_mono (fun _ => 0) (wcP L.procs u) L.procs fun i hi => by
      have tn := tok_nonneg h hc i hi
      unfold wcP
      split
      · exact tn.2
      · exact Int.le_refl _
    rw [sumP_zero (fun _ => 0) L.procs fun _ _ => rfl] at this
    exact this
  have ht : togH (L.hist u) = 0 ∨ togH (L.hist u) = 1 := by unfold togH; omega
  unfold evenS at e
  rw [t2, b] at e
  unfold allS
  rw [a, t1, hb]
  generalize sumP (wcP L.procs u) L.procs = W at *
  constructor <;> omega

/-- No part of a counter holds more than its share of what was begun. -/
theorem all_share (h : CRel c L P) (hc : c.kind = 0) : ∀ u, 1 ≤ u → u < L.past.length → formH (L.hist u) ≠ 3 → (allS L u - 1) * 2 ^ Nat.log2 u < allS L 1 - rank u := by
  have hN := h.rel.lenle
  intro u
  induction u using Nat.strongRecOn with
  | _ u ih =>
    intro h1 hu hf
    by_cases e1 : u = 1
    · subst e1
      obtain ⟨_, _, _, _, r1, l1⟩ := rank_kid ⟨1, by omega⟩ (by show 1 ≤ 1; omega)
      rw [r1, l1]
      simp
      omega
    · have hq := h.ck.ci.par u (by omega) hu hf
      have ia := ih (u / 2) (by omega) (by omega) (by omega) (by omega)
      obtain ⟨sa, sb⟩ := all_split h hc (u := u / 2) (by omega) (by omega) hq
      obtain ⟨k1, k2, k3, k4, _, _⟩ := rank_kid ⟨u / 2, by omega⟩ (by show 1 ≤ u / 2; omega)
      simp only at k1 k2 k3 k4
      have hl := log2_32 ⟨u / 2, by omega⟩
      simp only at hl
      generalize allS L 1 = T at *
      by_cases ev : u % 2 = 0
      · have eu : u = 2 * (u / 2) := by omega
        rw [eu, k1, k3, ← eu]
        have es : allS L (2 * (u / 2)) = allS L u := by rw [← eu]
        rw [es] at sa
        generalize allS L (u / 2) = sq at *
        generalize allS L u = su at *
        generalize rank (u / 2) = rk at *
        generalize Nat.log2 (u / 2) = d at *
        have : d = 0 ∨ d = 1 ∨ d = 2 ∨ d = 3 ∨ d = 4 := by omega
        rcases this with rfl | rfl | rfl | rfl | rfl <;> simp at ia ⊢ <;> omega
      · have eu : u = 2 * (u / 2) + 1 := by omega
        rw [eu, k2, k4, ← eu]
        have es : allS L (2 * (u / 2) + 1) = allS L u := by rw [← eu]
        rw [es] at sb
        generalize allS L (u / 2) = sq at *
        generalize allS L u = su at *
        generalize rank (u / 2) = rk at *
        generalize Nat.log2 (u / 2) = d at *
        have : d = 0 ∨ d = 1 ∨ d = 2 ∨ d = 3 ∨ d = 4 := by omega
        rcases this with rfl | rfl | rfl | rfl | rfl <;> simp at ia ⊢ <;> omega
end

end Go.Proofs.Ytjnmpejcegmkhaa
