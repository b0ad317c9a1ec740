/- What has gone in lies in the leaves, or is on its way (the document's tree alone). No statement of the seat is proved here. What holds of the document's tree through every play of a hand. No statement of the seat is proved here. A step of a hand, and what it may change. No statement of the seat is proved here. What is asked of a hand, of the document's tree beside it. No statement of the seat is proved here. Rounds of a hand (P15): what a step of a round does. No statement of the seat is proved here. Of every value as much lies in the leaves as Puts have brought and Gets have not taken (the document's tree alone): what a history holds. No statement of the seat is proved here. Of every value as much lies in the leaves as Puts have brought and Gets have not taken: through every Step (the document's tree alone). No statement of the seat is proved here. Of every value as much lies in the leaves as Puts have brought and Gets have not taken: through every play of a hand (the document's tree alone). No statement of the seat is proved here. The tickets of a pool's leaves: each was used, or somebody holds it (the document's tree alone). No statement of the seat is proved here. -/
import Derived.Test.YtjnmpejcegmkhabWorkA
import Derived.Test.YtjnmpejcegmkhabNew0
namespace Go.Proofs.Ytjnmpejcegmkhab
open Go.RowKit

def balS (L : Lay) : Int := sumN (fun w => balH (L.hist w)) L.past.length
def TotOk (L : Lay) : Prop := balS L + sumP (tokP L.procs) L.procs = sumP (fun p => sgn p.kind) L.procs

theorem tokP_lo {ps : Ps} {p : Pr} (h : ¬ (p.phase = 6 ∨ p.phase = 7)) : tokP ps p = if p.phase ≤ 12 then sgn p.kind else 0 := by
  have : metB p = false := by
    unfold metB
    have h6 : ¬ p.phase = 6 := fun x => h (Or.inl x)
    have h7 : ¬ p.phase = 7 := fun x => h (Or.inr x)
    simp [h6, h7]
  unfold tokP
  rw [this]
  simp
theorem tokP_ch {ps : Ps} {p : Pr} (h : 3 ≤ p.kind) : tokP ps p = 0 := by
  have : sgn p.kind = 0 := by unfold sgn; rw [if_neg (by omega), if_neg (by omega)]
  unfold tokP
  rw [this]
  split <;> simp
theorem tokP_un {ps : Ps} {p : Pr} (h : p.phase = 6 ∨ p.phase = 7) (hm : p.met < 0) : tokP ps p = sgn p.kind := by
  have : metB p = false := by
    unfold metB
    have : ¬ 0 ≤ p.met := by omega
    simp [this]
  unfold tokP
  rw [this, if_pos (by omega)]
  simp
theorem tokP_met {ps : Ps} {p : Pr} (h : p.phase = 6 ∨ p.phase = 7) (hm : 0 ≤ p.met) : tokP ps p = if kindAt ps p.met = p.kind then sgn p.kind else 0 := by
  have : metB p = true := by
    unfold metB
    rcases h with x | x <;> simp [x, hm]
  unfold tokP
  rw [this, if_pos (by omega)]
  by_cases e : kindAt ps p.met = p.kind <;> simp [e]

theorem tok_set {ps : Ps} {i : Nat} (hi : i < ps.length) {x : Nat × Pr} (hk : x.2.kind = (ps[i]).2.kind) : tokP (ps.set i x) = tokP ps := by
  funext p
  unfold tokP
  rw [kindAt_set hi hk]
theorem sgn_set {ps : Ps} {i : Nat} (hi : i < ps.length) {x : Nat × Pr} (hk : x.2.kind = (ps[i]).2.kind) : sumP (fun p => sgn p.kind) (ps.set i x) = sumP (fun p => sgn p.kind) ps := by
  rw [sumP_set _ _ _ hi, hk]
  omega

theorem tot_one {L L' : Lay} (h : TotOk L) {i : Nat} (hi : i < L.procs.length) {pb : Nat} {p' : Pr} (hp : L'.procs = L.procs.set i (pb, p')) (hk : p'.kind = (L.procs[i]).2.kind) (hs : balS L' = balS L + (tokP L.procs (L.procs[i]).2 - tokP L.procs p')) : TotOk L' := by
  unfold TotOk at h ⊢
  rw [hp, tok_set hi hk, sgn_set hi hk, sumP_set _ _ _ hi]
  simp only
  omega

theorem balS_hap (L : Lay) (v : Nat) (x : Value) (ev : Ev) (iv : Value) (hv : v < L.past.length) : balS (L.hap v x ev iv) = balS L + (balH ((ev, iv) :: L.hist v) - balH (L.hist v)) := by
  unfold balS
  rw [hap_len]
  have := sumN_upd (fun w => balH (L.hist w)) (fun w => balH ((L.hap v x ev iv).hist w)) v L.past.length hv (fun k _ hne => by rw [hist_hap L v k x ev iv hv, if_neg hne])
  rw [this, hist_hap L v v x ev iv hv, if_pos rfl]
  omega

section
variable {c : Conf} {L : Lay} {P : PLay} {i v : Nat} {p : Pr} {n : PN}

theorem Here.tot (h : Here c L P i v p n) (ck : CK c L P) (draw : Int) (ht : TotOk L) : TotOk (lstep L i draw) := by
  have hi := h.hi
  have hep := h.ep
  have hv := h.vN
  have ha := h.at'
  have hph := h.q.phase
  have hlive := h.live
  have hcq := ck.ci.cq i hi
  rw [hep] at hcq
  have hkp := hcq.kp
  have stay : ∀ q p' : Pr, p'.kind = p.kind → tokP L.procs p' = tokP L.procs p → TotOk ((L.setP i q).setP i p') := by
    intro q p' e1 e2
    refine tot_one ht hi (pb := (L.procs.getD i (0, q)).1) (p' := p') ?_ (by rw [hep]; exact e1) ?_
    · show (L.procs.set i _).set i _ = _
      rw [List.set_set]
      congr 2
      simp [List.getD_eq_getElem?_getD, hi]
    · rw [hep, e2]
      show balS L = _
      omega
  have one : ∀ q p' : Pr, p'.kind = p.kind → tokP L.procs p' = tokP L.procs p → TotOk (L.setP i p') := by
    intro q p' e1 e2
    refine tot_one ht hi (pb := (L.procs.getD i (0, p')).1) (p' := p') rfl (by rw [hep]; exact e1) ?_
    rw [hep, e2]
    show balS L = _
    omega
  have happ : ∀ (q p' : Pr) (ev : Ev), p'.kind = p.kind → balH ((ev, nilV) :: L.hist v) - balH (L.hist v) = tokP L.procs p - tokP L.procs p' → TotOk (((L.setP i q).hap v nilV ev nilV).setP i p') := by
    intro q p' ev e1 e2
    refine tot_one ht hi (pb := (L.procs.getD i (0, q)).1) (p' := p') ?_ (by rw [hep]; exact e1) ?_
    · show (L.procs.set i _).set i _ = _
      rw [List.set_set]
      congr 2
      simp [List.getD_eq_getElem?_getD, hi]
    · rw [hep, ← e2]
      have := balS_hap (L.setP i q) v nilV ev nilV hv
      exact this
  rw [h.lat draw, h.lget]
  simp only
  by_cases e8 : p.phase = 8
  · rw [if_pos e8]
    obtain ⟨j, hm, hj, hji⟩ := h.q.mind e8
    have ej : p.mind.toNat = j := by omega
    rw [ej, List.getElem?_eq_getElem hj]
    simp only
    have tp : tokP L.procs p = sgn p.kind := by rw [tokP_lo (p := p) (by omega), if_pos (by omega)]
    split
    · rename_i hme
      unfold meets at hme
      simp only [Bool.and_eq_true, decide_eq_true_eq] at hme
      obtain ⟨⟨_, y6⟩, ymet⟩ := hme
      have hqj := (h.rel.qs j hj).kind
      have hqi := h.q.kind
      have hkj := (ck.ci.cq j hj).kp
      obtain ⟨y, hy⟩ : ∃ y, (L.procs[j]).2 = y := ⟨_, rfl⟩
      rw [hy] at y6 ymet hqj hkj ⊢
      have kp3 : p.kind < 3 := Int.not_le.1 fun x => by have := hkp.chg x; omega
      have kj3 : y.kind < 3 := Int.not_le.1 fun x => by have := hkj.chg x; omega
      have ty : tokP L.procs y = sgn y.kind := tokP_un (Or.inl y6) ymet
      have kat : kindAt L.procs (i : Int) = p.kind := by
        unfold kindAt
        simp [hi, hep]
      obtain ⟨y', hy'⟩ : ∃ y' : Pr, y' = { y with met := (i : Int) } := ⟨_, rfl⟩
      have ky' : y'.kind = y.kind := by rw [hy']
      have ty' : tokP L.procs y' = if p.kind = y.kind then sgn y.kind else 0 := by
        rw [tokP_met (p := y') (Or.inl (by rw [hy']; exact y6)) (by rw [hy']; show (0 : Int) ≤ (i : Int); omega), ky']
        have : y'.met = (i : Int) := by rw [hy']
        rw [this, kat]
      rw [← hy']
      have ts : tokP L.procs (settledPr (incPr p) y 1) = if p.kind = y.kind then sgn p.kind else 0 := by
        unfold settledPr
        by_cases e : p.kind = y.kind
        · rw [if_pos (show (incPr p).kind = y.kind from e), if_pos e, tokP_lo (by show ¬ ((0 : Int) = 6 ∨ (0 : Int) = 7); decide), if_pos (by show (0 : Int) ≤ 12; decide)]
        · rw [if_neg (show ¬ (incPr p).kind = y.kind from e), if_neg e]
          split
          · rw [tokP_lo (by show ¬ ((19 : Int) = 6 ∨ (19 : Int) = 7); decide), if_neg (by show ¬ (19 : Int) ≤ 12; decide)]
          · rw [tokP_lo (by show ¬ ((19 : Int) = 6 ∨ (19 : Int) = 7); decide), if_neg (by show ¬ (19 : Int) ≤ 12; decide)]
      have ks : (settledPr (incPr p) y 1).kind = p.kind := by
        unfold settledPr
        split
        · rfl
        · split <;> rfl
      have hbal : tokP L.procs y' + tokP L.procs (settledPr (incPr p) y 1) = tokP L.procs y + tokP L.procs p := by
        rw [ty', ts, ty, tp]
        by_cases e : p.kind = y.kind
        · rw [if_pos e, if_pos e]
        · rw [if_neg e, if_neg e]
          have : (p.kind = 1 ∧ y.kind = 2) ∨ (p.kind = 2 ∧ y.kind = 1) := by omega
          rcases this with ⟨a, b⟩ | ⟨a, b⟩ <;> rw [a, b] <;> rfl
      generalize settledPr (incPr p) y 1 = p' at *
      obtain ⟨a, b, eproc⟩ : ∃ a b, (((L.setP i (incPr p)).setP j y').setP i p').procs = (L.procs.set j (a, y')).set i (b, p') := by
        have e3 : ∀ x0 x1 x2 : Nat × Pr, ((L.procs.set i x0).set j x1).set i x2 = (L.procs.set j x1).set i x2 := by
          intro x0 x1 x2
          rw [List.set_comm _ _ (Ne.symm hji), List.set_set]
        exact ⟨_, _, e3 _ (_, y') (_, p')⟩
      unfold TotOk at ht ⊢
      have eb : balS (((L.setP i (incPr p)).setP j y').setP i p') = balS L := rfl
      rw [eproc, eb]
      have hij : i < (L.procs.set j (a, y')).length := by simpa using hi
      have egi : ((L.procs.set j (a, y'))[i]).2 = p := by rw [List.getElem_set_ne hji]; exact hep
      have kk1 : (b, p').2.kind = ((L.procs.set j (a, y'))[i]).2.kind := by rw [egi]; exact ks
      have kk2 : (a, y').2.kind = (L.procs[j]).2.kind := by rw [hy]; exact ky'
      rw [tok_set hij kk1, sgn_set hij kk1, tok_set hj kk2, sgn_set hj kk2, sumP_set _ _ _ hij, sumP_set _ _ _ hj, egi, hy]
      simp only
      omega
    · refine stay _ _ rfl ?_
      rw [tp, tokP_lo (by show ¬ ((9 : Int) = 6 ∨ (9 : Int) = 7); decide), if_pos (by show (9 : Int) ≤ 12; decide)]
  rw [if_neg e8]
  by_cases e9 : p.phase = 9
  · rw [if_pos e9]
    refine happ _ _ _ rfl ?_
    rw [(bal_over (L.hist v) ⟨5, _, 0, []⟩ nilV (by show (3 : Int) < 5; decide) (by show (5 : Int) ≠ 6; decide) (by show (5 : Int) ≠ 7; decide)).1, tokP_lo (p := p) (by omega), tokP_lo (by show ¬ ((11 : Int) = 6 ∨ (11 : Int) = 7); decide), if_pos (by omega), if_pos (by show (11 : Int) ≤ 12; decide)]
    show balH (L.hist v) - balH (L.hist v) = sgn p.kind - sgn p.kind
    omega
  rw [if_neg e9]
  by_cases e10 : p.phase = 10
  · rw [if_pos e10]
    refine happ _ _ _ rfl ?_
    rw [(bal_over (L.hist v) ⟨5, _, 0, []⟩ nilV (by show (3 : Int) < 5; decide) (by show (5 : Int) ≠ 6; decide) (by show (5 : Int) ≠ 7; decide)).1, tokP_lo (p := p) (by omega), tokP_lo (by show ¬ ((11 : Int) = 6 ∨ (11 : Int) = 7); decide), if_pos (by omega), if_pos (by show (11 : Int) ≤ 12; decide)]
    show balH (L.hist v) - balH (L.hist v) = sgn p.kind - sgn p.kind
    omega
  rw [if_neg e10]
  by_cases e11 : p.phase = 11
  · rw [if_pos e11]
    refine happ _ _ _ rfl ?_
    rw [(bal_over (L.hist v) ⟨4, 0, 0, []⟩ nilV (by show (3 : Int) < 4; decide) (by show (4 : Int) ≠ 6; decide) (by show (4 : Int) ≠ 7; decide)).1, tokP_lo (p := p) (by omega), tokP_lo (by show ¬ ((0 : Int) = 6 ∨ (0 : Int) = 7); decide), if_pos (by omega), if_pos (by show (0 : Int) ≤ 12; decide)]
    show balH (L.hist v) - balH (L.hist v) = sgn p.kind - sgn p.kind
    omega
  rw [if_neg e11]
  by_cases e12 : p.phase = 12
  · rw [if_pos e12]
    have hf := h.isLeaf (by omega) (by omega)
    have hb6 : balH ((⟨6, 0, 0, []⟩, nilV) :: L.hist v) - balH (L.hist v) = 1 := by
      unfold balH putsH
      simp [formH, fromH, manyH, hf]
      omega
    have hb7 : balH ((⟨7, 0, 0, []⟩, nilV) :: L.hist v) - balH (L.hist v) = -1 := by
      unfold balH putsH
      simp [formH, fromH, manyH, hf]
      omega
    have hk3 : p.kind < 3 := Int.not_le.1 fun x => by have := hkp.chg x; omega
    have hk0 := hcq.kinds
    have tp : tokP L.procs p = sgn p.kind := by rw [tokP_lo (p := p) (by omega), if_pos (by omega)]
    split
    · rename_i hk
      refine happ _ _ _ rfl ?_
      rw [hb6, tp, tokP_lo (by show ¬ ((19 : Int) = 6 ∨ (19 : Int) = 7); decide), if_neg (by show ¬ (19 : Int) ≤ 12; decide), hk]
      rfl
    · split
      · rename_i hk
        refine happ _ _ _ rfl ?_
        rw [hb6, tp, tokP_lo (by show ¬ ((13 : Int) = 6 ∨ (13 : Int) = 7); decide), if_neg (by show ¬ (13 : Int) ≤ 12; decide), hk]
        rfl
      · refine happ _ _ _ rfl ?_
        rw [hb7, tp, tokP_lo (by show ¬ ((14 : Int) = 6 ∨ (14 : Int) = 7); decide), if_neg (by show ¬ (14 : Int) ≤ 12; decide), show p.kind = 2 by omega]
        rfl
  rw [if_neg e12]
  by_cases e13 : p.phase = 13
  · rw [if_pos e13]
    split
    · refine happ _ _ _ rfl ?_
      rw [(bal_over (L.hist v) ⟨8, _, _, []⟩ nilV (by show (3 : Int) < 8; decide) (by show (8 : Int) ≠ 6; decide) (by show (8 : Int) ≠ 7; decide)).1, tokP_lo (p := p) (by omega), tokP_lo (by show ¬ ((19 : Int) = 6 ∨ (19 : Int) = 7); decide), if_neg (by omega), if_neg (by show ¬ (19 : Int) ≤ 12; decide)]
      omega
    · refine one p _ rfl ?_
      rw [tokP_lo (p := p) (by omega), tokP_lo (by show ¬ (p.phase = 6 ∨ p.phase = 7); omega)]
  rw [if_neg e13]
  by_cases e14 : p.phase = 14
  · rw [if_pos e14]
    split
    · refine happ _ _ _ rfl ?_
      rw [(bal_over (L.hist v) ⟨9, _, 0, []⟩ nilV (by show (3 : Int) < 9; decide) (by show (9 : Int) ≠ 6; decide) (by show (9 : Int) ≠ 7; decide)).1, tokP_lo (p := p) (by omega), tokP_lo (by show ¬ ((19 : Int) = 6 ∨ (19 : Int) = 7); decide), if_neg (by omega), if_neg (by show ¬ (19 : Int) ≤ 12; decide)]
      omega
    · refine one p _ rfl ?_
      rw [tokP_lo (p := p) (by omega), tokP_lo (by show ¬ (p.phase = 6 ∨ p.phase = 7); omega)]
  rw [if_neg e14]
  by_cases e17 : p.phase = 17
  · rw [if_pos e17]
    have tg := h.target17 ck e17
    have hkid := tg.kid
    have h1v := h.v1
    have hk3 : 3 ≤ p.kind := Int.not_lt.1 fun x => hkp.walk x (by omega)
    have upk : ∀ q : Pr, (upPr q).kind = q.kind := fun q => rfl
    have hcf := h.rel.confs
    have hcL := h.rel.cL
    have zero : ∀ (L' : Lay) (r : Int) (q : Pr), L'.procs = ((L.setP i q).setP i (upPr { incPr p with val := r })).procs → balS L' = balS L → TotOk L' := by
      intro L' r q e1 e2
      refine tot_one ht hi (pb := (L.procs.getD i (0, q)).1) (p' := upPr { incPr p with val := r }) ?_ (by rw [hep]; rfl) ?_
      · rw [e1]
        show (L.procs.set i _).set i _ = _
        rw [List.set_set]
        congr 2
        simp [List.getD_eq_getElem?_getD, hi]
      · rw [hep, e2, tokP_ch (p := p) hk3, tokP_ch (by show 3 ≤ p.kind; exact hk3)]
        omega
    split
    · rename_i hk4
      refine zero _ 1 (incPr p) rfl ?_
      have hf : formH (L.hist v) = 2 := by rw [tg.form, if_neg (by omega)]
      have hno : ∀ w, w / 2 = v → 2 ≤ w → w < L.past.length → formH (L.hist w) = 3 := by
        intro w hw h2 hwN
        by_cases f : formH (L.hist w) = 3
        · exact f
        · have := ck.ci.par w h2 hwN f
          rw [hw] at this
          omega
      have f0 := hno (2 * v) (by omega) (by omega) (by omega)
      have f1 := hno (2 * v + 1) (by omega) (by omega) hkid
      have b0 : balH (L.hist (2 * v)) = 0 := by unfold balH; rw [f0]; simp
      have b1 : balH (L.hist (2 * v + 1)) = 0 := by unfold balH; rw [f1]; simp
      have hN : unfN (L.setP i (incPr p)) v = balH (L.hist v) := by
        unfold unfN
        show (if L.c.kind = 0 then putsH (L.hist v) else ((itemsH (L.hist v)).length : Int)) = _
        rw [hcL]
        rcases hcf.1 with k0 | k1
        · rw [if_pos k0]; exact h.bal_count ck tg k0 v (Or.inl rfl) hf
        · rw [if_neg (by omega)]; exact h.bal_pool ck tg k1 v (Or.inl rfl) hf
      show balS ((L.setP i (incPr p)).unfolded v nilV nilV nilV nilV nilV) = balS L
      unfold Lay.unfolded
      rw [balS_hap _ _ _ _ _ (by simp; omega), balS_hap _ _ _ _ _ (by simp; omega), balS_hap _ _ _ _ _ (by exact hv), hN]
      have g1 : (((L.setP i (incPr p)).hap v nilV ⟨1, balH (L.hist v) % 2, 0, []⟩ nilV).hist (2 * v)) = L.hist (2 * v) := by rw [hap_hist _ _ _ _ _ _ (by exact hv) (by omega)]; rfl
      have g2 : ((((L.setP i (incPr p)).hap v nilV ⟨1, balH (L.hist v) % 2, 0, []⟩ nilV).hap (2 * v) nilV ⟨2, (balH (L.hist v) + 1) / 2, 0, evT (itemsH ((L.setP i (incPr p)).hist v)) (itemsH ((L.setP i (incPr p)).hist v)).length⟩ nilV).hist (2 * v + 1)) = L.hist (2 * v + 1) := by rw [hap_hist _ _ _ _ _ _ (by simp; omega) (by omega), hap_hist _ _ _ _ _ _ (by exact hv) (by omega)]; rfl
      rw [g1, g2, b0, b1]
      have gv : (L.setP i (incPr p)).hist v = L.hist v := rfl
      rw [gv]
      have eS : balS (L.setP i (incPr p)) = balS L := rfl
      rw [eS]
      have z0 : balH ((⟨1, balH (L.hist v) % 2, 0, []⟩, nilV) :: L.hist v) = 0 := by simp [balH, formH]
      have z1 : ∀ its, balH ((⟨2, (balH (L.hist v) + 1) / 2, 0, its⟩, nilV) :: L.hist (2 * v)) = (balH (L.hist v) + 1) / 2 := by intro its; generalize balH (L.hist v) = bb; simp [balH, formH, putsH, fromH, manyH]
      have z2 : ∀ its, balH ((⟨2, balH (L.hist v) / 2, 0, its⟩, nilV) :: L.hist (2 * v + 1)) = balH (L.hist v) / 2 := by intro its; generalize balH (L.hist v) = bb; simp [balH, formH, putsH, fromH, manyH]
      rw [z0, z1, z2]
      omega
    · split
      · exact stay _ _ rfl (by rw [tokP_ch (p := p) hk3, tokP_ch (by show 3 ≤ p.kind; exact hk3)])
      · rename_i hk4 hno
        refine zero _ 1 (incPr p) rfl ?_
        have k3 : p.kind = 3 := by have := hcq.kinds; omega
        have hf : formH (L.hist v) = 1 := by rw [tg.form, if_pos k3]
        obtain ⟨kk1, kk2, kk3⟩ := h.rel.kids v h1v hv hf
        have r0 := (h.rel.nodes (2 * v) (by omega) (by omega)).form
        have r1 := (h.rel.nodes (2 * v + 1) (by omega) hkid).form
        have f0 : formH (L.hist (2 * v)) = 2 := by omega
        have f1 : formH (L.hist (2 * v + 1)) = 2 := by omega
        have bv : balH (L.hist v) = 0 := by unfold balH; rw [hf]; simp
        have hN : foldN ((L.setP i (incPr p))) v = balH (L.hist (2 * v)) + balH (L.hist (2 * v + 1)) := by
          unfold foldN
          show (if L.c.kind = 0 then putsH (L.hist (2 * v)) + putsH (L.hist (2 * v + 1)) else ((alt (itemsH (L.hist (2 * v))) (itemsH (L.hist (2 * v + 1)))).length : Int)) = _
          rw [hcL]
          rcases hcf.1 with k0 | k1
          · rw [if_pos k0, h.bal_count ck tg k0 _ (Or.inr (Or.inl rfl)) f0, h.bal_count ck tg k0 _ (Or.inr (Or.inr rfl)) f1]
          · have htog : balH (L.hist (2 * v)) - balH (L.hist (2 * v + 1)) = togH (L.hist v) := by
              have hl := h.rel.lenle
              have e := ck.ci.even v h1v hv hf
              rw [even_quiet hkid (by omega) h1v ?_ tg.even] at e
              · omega
              · intro w hw w0 w1 hs
                exact leaf_below (by omega) h.v32 h1v ck.ci.par (fun x => x = 2 * v ∨ x = 2 * v + 1) (Or.inr (fun x hx => by omega)) (fun x hx => by rcases hx with e | e <;> rw [e] <;> omega) w hw hs (by omega)
            have ht01 : togH (L.hist v) = 0 ∨ togH (L.hist v) = 1 := by unfold togH; omega
            have q0 := h.bal_pool ck tg k1 _ (Or.inr (Or.inl rfl)) f0
            have q1 := h.bal_pool ck tg k1 _ (Or.inr (Or.inr rfl)) f1
            have ha := (altF_more _ (itemsH (L.hist (2 * v))) (itemsH (L.hist (2 * v + 1))) (Nat.le_refl _) (by omega)).2
            rw [if_neg (by omega)]
            unfold alt
            rw [ha]
            omega
        show balS ((L.setP i (incPr p)).folded v nilV nilV nilV nilV) = balS L
        unfold Lay.folded
        rw [balS_hap _ _ _ _ _ (by simp; omega), balS_hap _ _ _ _ _ (by simp; omega), balS_hap _ _ _ _ _ (by show 2 * v < L.past.length; omega), hN]
        have g1 : (((L.setP i (incPr p)).hap (2 * v) nilV ⟨3, 0, 0, []⟩ nilV).hist (2 * v + 1)) = L.hist (2 * v + 1) := by rw [hap_hist _ _ _ _ _ _ (by show 2 * v < L.past.length; omega) (by omega)]; rfl
        have g2 : ((((L.setP i (incPr p)).hap (2 * v) nilV ⟨3, 0, 0, []⟩ nilV).hap (2 * v + 1) nilV ⟨3, 0, 0, []⟩ nilV).hist v) = L.hist v := by rw [hap_hist _ _ _ _ _ _ (by simp; omega) (by omega), hap_hist _ _ _ _ _ _ (by show 2 * v < L.past.length; omega) (by omega)]; rfl
        rw [g1, g2, bv]
        have gv : (L.setP i (incPr p)).hist (2 * v) = L.hist (2 * v) := rfl
        rw [gv]
        have eS : balS (L.setP i (incPr p)) = balS L := rfl
        rw [eS]
        have z0 : ∀ l : Hist, balH ((⟨3, 0, 0, []⟩, nilV) :: l) = 0 := by intro l; simp [balH, formH]
        have z1 : ∀ its, balH ((⟨2, balH (L.hist (2 * v)) + balH (L.hist (2 * v + 1)), 0, its⟩, nilV) :: L.hist v) = balH (L.hist (2 * v)) + balH (L.hist (2 * v + 1)) := by intro its; generalize balH (L.hist (2 * v)) = bb; generalize balH (L.hist (2 * v + 1)) = cc; simp [balH, formH, putsH, fromH, manyH]
        rw [z0, z0, z1]
        omega
  rw [if_neg e17]
  have hmv : (lmove (L.setP i (incPr p)) v (incPr p) draw).kind = p.kind ∧ tokP L.procs (lmove (L.setP i (incPr p)) v (incPr p) draw) = tokP L.procs p := by
    have lo : ∀ q : Pr, q.kind = p.kind → q.phase ≤ 12 → ¬ (q.phase = 6 ∨ q.phase = 7) → p.phase ≤ 12 → ¬ (p.phase = 6 ∨ p.phase = 7) → tokP L.procs q = tokP L.procs p := by
      intro q a b d e f
      rw [tokP_lo d, tokP_lo f, if_pos b, if_pos e, a]
    have ch : ∀ q : Pr, q.kind = p.kind → 3 ≤ p.kind → tokP L.procs q = tokP L.procs p := by
      intro q a b
      rw [tokP_ch (by omega), tokP_ch b]
    unfold lmove
    have ein : (incPr p).phase = p.phase := rfl
    rw [ein]
    by_cases e0 : p.phase = 0
    · rw [if_pos e0]
      exact ⟨rfl, lo _ rfl (by show (1 : Int) ≤ 12; decide) (by show ¬ ((1 : Int) = 6 ∨ (1 : Int) = 7); decide) (by omega) (by omega)⟩
    rw [if_neg e0]
    by_cases e1 : p.phase = 1
    · rw [if_pos e1]
      split
      · exact ⟨rfl, lo _ rfl (by show (2 : Int) ≤ 12; decide) (by show ¬ ((2 : Int) = 6 ∨ (2 : Int) = 7); decide) (by omega) (by omega)⟩
      · split
        · refine ⟨rfl, lo _ rfl ?_ ?_ (by omega) (by omega)⟩
          · show (if _ then (3 : Int) else 12) ≤ 12
            split <;> decide
          · show ¬ ((if _ then (3 : Int) else 12) = 6 ∨ (if _ then (3 : Int) else 12) = 7)
            split <;> decide
        · rename_i hk3
          have hk3' : 3 ≤ p.kind := Int.not_lt.1 hk3
          split
          · exact ⟨rfl, ch _ rfl hk3'⟩
          · exact ⟨rfl, ch _ rfl hk3'⟩
    rw [if_neg e1]
    by_cases e2 : p.phase = 2
    · rw [if_pos e2]
      exact ⟨rfl, lo _ rfl (by show (0 : Int) ≤ 12; decide) (by show ¬ ((0 : Int) = 6 ∨ (0 : Int) = 7); decide) (by omega) (by omega)⟩
    rw [if_neg e2]
    by_cases e3 : p.phase = 3
    · rw [if_pos e3]
      exact ⟨rfl, lo _ rfl (by show (4 : Int) ≤ 12; decide) (by show ¬ ((4 : Int) = 6 ∨ (4 : Int) = 7); decide) (by omega) (by omega)⟩
    rw [if_neg e3]
    by_cases e4 : p.phase = 4
    · rw [if_pos e4]
      split
      · exact ⟨rfl, lo _ rfl (by show (5 : Int) ≤ 12; decide) (by show ¬ ((5 : Int) = 6 ∨ (5 : Int) = 7); decide) (by omega) (by omega)⟩
      · split
        · split
          · exact ⟨rfl, lo _ rfl (by show (11 : Int) ≤ 12; decide) (by show ¬ ((11 : Int) = 6 ∨ (11 : Int) = 7); decide) (by omega) (by omega)⟩
          · exact ⟨rfl, lo _ rfl (by show (8 : Int) ≤ 12; decide) (by show ¬ ((8 : Int) = 6 ∨ (8 : Int) = 7); decide) (by omega) (by omega)⟩
        · exact ⟨rfl, lo _ rfl (by show p.phase ≤ 12; omega) (by show ¬ (p.phase = 6 ∨ p.phase = 7); omega) (by omega) (by omega)⟩
    rw [if_neg e4]
    by_cases e5 : p.phase = 5
    · rw [if_pos e5]
      split
      · refine ⟨rfl, ?_⟩
        rw [tokP_un (Or.inl rfl) (by show (-1 : Int) < 0; decide), tokP_lo (p := p) (by omega), if_pos (by omega)]
      · exact ⟨rfl, lo _ rfl (by show (9 : Int) ≤ 12; decide) (by show ¬ ((9 : Int) = 6 ∨ (9 : Int) = 7); decide) (by omega) (by omega)⟩
    rw [if_neg e5]
    by_cases e6 : p.phase = 6
    · rw [if_pos e6]
      unfold waitPr
      split
      · rename_i hm
        refine ⟨rfl, ?_⟩
        have e1 : tokP L.procs { incPr p with phase := 7 } = _ := tokP_met (p := { incPr p with phase := 7 }) (Or.inr rfl) hm
        rw [tokP_met (p := p) (Or.inl e6) hm]
        exact e1
      · rename_i hm
        have hm' : p.met < 0 := Int.not_le.1 hm
        split
        · refine ⟨rfl, ?_⟩
          rw [tokP_un (p := p) (Or.inl e6) hm']
          exact tokP_un (p := { incPr p with pat := (incPr p).pat - 1 }) (Or.inl e6) hm'
        · refine ⟨rfl, ?_⟩
          rw [tokP_lo (by show ¬ ((10 : Int) = 6 ∨ (10 : Int) = 7); decide), if_pos (by show (10 : Int) ≤ 12; decide), tokP_un (p := p) (Or.inl e6) hm']
    rw [if_neg e6]
    by_cases e7 : p.phase = 7
    · rw [if_pos e7]
      obtain ⟨k, hk, hs⟩ := h.slotk
      have hf := h.inner (by omega) (by omega)
      have hsr := h.slotRel hf hk
      have hwi : waitP v k (L.procs[i]).2 = true := by
        rw [hep]
        unfold waitP
        simp [ha, hs, e7]
      obtain ⟨b, hb, hbl⟩ : ∃ b : Nat, p.met = (b : Int) ∧ b < L.procs.length := by
        rcases hsr with ⟨_, x⟩ | ⟨j, hj, _, _, x3, x4⟩
        · rw [x i hi] at hwi
          exact absurd hwi (by decide)
        · have eij := x3 i hi hwi
          subst eij
          rw [hep] at x4
          rcases x4 with x4 | ⟨_, b, _, x5, x6, _⟩
          · omega
          · exact ⟨b, x5, x6⟩
      have hkat : kindAt L.procs p.met = (L.procs[b]).2.kind := by unfold kindAt; rw [hb]; simp [hbl]
      have tp : tokP L.procs p = if (L.procs[b]).2.kind = p.kind then sgn p.kind else 0 := by rw [tokP_met (p := p) (Or.inr e7) (by omega), hkat]
      have eM : ∃ y, (L.setP i (incPr p)).procs[(incPr p).met.toNat]? = some y ∧ y.2.kind = (L.procs[b]).2.kind := by
        have em : (incPr p).met.toNat = b := by show p.met.toNat = b; omega
        rw [em]
        by_cases eb : b = i
        · subst eb
          refine ⟨((L.procs.getD b (0, incPr p)).1, incPr p), ?_, ?_⟩
          · show (L.procs.set b _)[b]? = _
            rw [List.getElem?_set_self hi]
          · show p.kind = _
            rw [hep]
        · refine ⟨L.procs[b], ?_, rfl⟩
          show (L.procs.set i _)[b]? = _
          rw [List.getElem?_set_ne (Ne.symm eb), List.getElem?_eq_getElem hbl]
      obtain ⟨y, ey, ky⟩ := eM
      rw [ey]
      simp only
      unfold settledPr
      by_cases e : p.kind = y.2.kind
      · rw [if_pos (show ({ incPr p with met := -1 } : Pr).kind = y.2.kind from e)]
        refine ⟨rfl, ?_⟩
        rw [tp, ← ky, if_pos e.symm, tokP_lo (by show ¬ ((0 : Int) = 6 ∨ (0 : Int) = 7); decide), if_pos (by show (0 : Int) ≤ 12; decide)]
      · rw [if_neg (show ¬ ({ incPr p with met := -1 } : Pr).kind = y.2.kind from e)]
        rw [tp, ← ky, if_neg (Ne.symm e)]
        split
        · exact ⟨rfl, by rw [tokP_lo (by show ¬ ((19 : Int) = 6 ∨ (19 : Int) = 7); decide), if_neg (by show ¬ (19 : Int) ≤ 12; decide)]⟩
        · exact ⟨rfl, by rw [tokP_lo (by show ¬ ((19 : Int) = 6 ∨ (19 : Int) = 7); decide), if_neg (by show ¬ (19 : Int) ≤ 12; decide)]⟩
    rw [if_neg e7]
    by_cases e15 : p.phase = 15
    · have hk3 : 3 ≤ p.kind := Int.not_lt.1 fun x => hkp.walk x (by omega)
      rw [if_pos e15]
      have : (shutCh (L.setP i (incPr p)) v (incPr p)).kind = p.kind := by unfold shutCh; split <;> rfl
      exact ⟨this, ch _ this hk3⟩
    rw [if_neg e15]
    by_cases e16 : p.phase = 16
    · have hk3 : 3 ≤ p.kind := Int.not_lt.1 fun x => hkp.walk x (by omega)
      rw [if_pos e16]
      have : (drainCh (L.setP i (incPr p)) v (incPr p)).kind = p.kind := by unfold drainCh; split; rfl; split <;> rfl
      exact ⟨this, ch _ this hk3⟩
    rw [if_neg e16]
    by_cases e18 : p.phase = 18
    · have hk3 : 3 ≤ p.kind := Int.not_lt.1 fun x => hkp.walk x (by omega)
      rw [if_pos e18]
      exact ⟨rfl, ch _ rfl hk3⟩
    rw [if_neg e18]
    by_cases e19 : p.phase = 19
    · rw [if_pos e19]
      refine ⟨rfl, ?_⟩
      have hup : (upPr (incPr p)).phase = 19 ∨ (upPr (incPr p)).phase = 20 := by
        unfold upPr
        simp only
        split
        · exact Or.inr rfl
        · exact Or.inl rfl
      rw [tokP_lo (p := upPr (incPr p)) (by omega), if_neg (by omega), tokP_lo (p := p) (by omega), if_neg (by omega)]
    omega
  exact stay _ _ hmv.1 hmv.2
end

end Go.Proofs.Ytjnmpejcegmkhab

namespace Go.Proofs.Ytjnmpejcegmkhab
open Go.RowKit

structure XOk (c : Conf) (L : Lay) : Prop where
  pat : PatOk c L
  tot : TotOk L

theorem XOk.step {c : Conf} {L : Lay} {P : PLay} (h : CRel c L P) (x : XOk c L) {i : Nat} (hi : i < L.procs.length) (hl : (L.procs[i]).2.phase ≠ 20) (draw : Int) : XOk c (lstep L i draw) := by
  obtain ⟨_, _, _, _, hp, _⟩ := h.sq x.pat hi hl draw
  obtain ⟨v, n, hh⟩ := h.rel.here hi hl
  exact ⟨hp, hh.tot h.ck draw x.tot⟩

theorem sumP_one (f : Pr → Int) (x : Nat × Pr) : ∀ ps : Ps, sumP f (ps ++ [x]) = sumP f ps + f x.2
  | [] => by simp [sumP]
  | y :: r => by simp only [List.cons_append, sumP]; rw [sumP_one f x r]; omega

theorem XOk.spawn {c : Conf} {L : Lay} {P : PLay} (h : CRel c L P) (x : XOk c L) (o : Op3) : XOk c { L with procs := L.procs ++ [(0, newPr o)] } := by
  have hph : (newPr o).phase = 0 ∨ ((newPr o).phase = 15 ∧ 3 ≤ o.kind) := by
    unfold newPr
    by_cases e : isChange o ∧ o.node = 1
    · right
      refine ⟨by simp [e], ?_⟩
      have := e.1
      unfold isChange at this
      simp at this
      omega
    · left
      simp [e]
  refine ⟨fun i hi => ?_, ?_⟩
  · have hi' : i < (L.procs ++ [(0, newPr o)]).length := hi
    simp only [List.length_append, List.length_cons, List.length_nil] at hi'
    by_cases e : i < L.procs.length
    · simp only [List.getElem_append_left e]
      exact x.pat i e
    · have e' : i = L.procs.length := by omega
      subst e'
      simp only [List.getElem_append_right (Nat.le_refl _), Nat.sub_self, List.getElem_cons_zero]
      refine ⟨fun a => ?_, fun a => ?_⟩
      · have : (newPr o).phase = 6 := a
        omega
      · have : (newPr o).phase = 16 := a
        omega
  · have ht := x.tot
    unfold TotOk at ht ⊢
    show balS L + sumP (tokP (L.procs ++ [(0, newPr o)])) (L.procs ++ [(0, newPr o)]) = sumP (fun p => sgn p.kind) (L.procs ++ [(0, newPr o)])
    rw [sumP_one, sumP_one]
    have e1 : sumP (tokP (L.procs ++ [(0, newPr o)])) L.procs = sumP (tokP L.procs) L.procs := by
      refine sumP_congr _ _ _ fun j hj => ?_
      cases hm : metB (L.procs[j]).2 with
      | false => unfold tokP; rw [hm]; simp
      | true =>
        have hlt : (L.procs[j]).2.met.toNat < L.procs.length := by
          have hm' := hm
          unfold metB at hm'
          simp only [Bool.and_eq_true, Bool.or_eq_true, decide_eq_true_eq] at hm'
          obtain ⟨v, n, hh⟩ := h.rel.here hj (by omega)
          obtain ⟨k, hk, hs⟩ := hh.slotk
          obtain ⟨_, hx⟩ := hh.mine hm'.1 hk hs (hh.inner (by omega) (by omega))
          rcases hx with ⟨_, _, e⟩ | ⟨_, b, _, e, hb, _⟩
          · omega
          · omega
        unfold tokP
        rw [kindAt_app hlt]
    have e2 : tokP (L.procs ++ [(0, newPr o)]) (newPr o) = sgn (newPr o).kind := by
      rcases hph with e | ⟨e, hk⟩
      · rw [tokP_lo (by omega), if_pos (by omega)]
      · rw [tokP_ch (show 3 ≤ (newPr o).kind from hk)]
        show 0 = sgn o.kind
        unfold sgn
        rw [if_neg (by omega), if_neg (by omega)]
    rw [e1]
    show balS L + (_ + tokP (L.procs ++ [(0, newPr o)]) (newPr o)) = _ + sgn (newPr o).kind
    rw [e2]
    omega

theorem XOk.new (c : Conf) : XOk c (newLay c) := by
  refine ⟨fun i hi => absurd hi (Nat.not_lt_zero _), ?_⟩
  show balS (newLay c) + 0 = 0
  have : balS (newLay c) = 0 := by
    unfold balS
    refine sumN_zero _ _ fun w hw => ?_
    by_cases h0 : w = 0
    · subst h0
      rw [(newLay_new c).hist0]
      simp [balH, formH]
    · rw [(newLay_new c).hist w (by omega) hw]
      unfold newHist
      split
      · simp [balH, formH]
      · split
        · simp [balH, formH, putsH, fromH, manyH]
        · simp [balH, formH]
  omega

end Go.Proofs.Ytjnmpejcegmkhab

namespace Go.Proofs.Ytjnmpejcegmkhab
open Go.RowKit

abbrev KS : List TypeId := [81, 101, 108, 4]

theorem hstep2_c {w : World} {B hb : Nat} {c : Conf} {S : Gh} {P : PLay} (h : KSt w B hb c S P) (p draw : Int) :
    Calls Try.prog 25 #[.pointer (some ⟨hb, 0, none⟩), I p, I draw] w fun e w' => e = .returned (.bool true) ∧ (∃ P', KSt w' B hb c (gstep S p draw) P') ∧ ChgT B KS w w' := by
  have hpl := h.rel.plen
  have same : gstep S p draw = S → (Calls Try.prog 25 #[.pointer (some ⟨hb, 0, none⟩), I p, I draw] w fun e w' => e = .returned (.bool true) ∧ Below w.heap.size w w') → Calls Try.prog 25 #[.pointer (some ⟨hb, 0, none⟩), I p, I draw] w fun e w' => e = .returned (.bool true) ∧ (∃ P', KSt w' B hb c (gstep S p draw) P') ∧ ChgT B KS w w' := by
    intro eg hc
    rw [eg]
    refine hc.mono ?_
    rintro e w' ⟨rfl, hb'⟩
    exact ⟨rfl, ⟨P, h.below hb'⟩, ChgT.of_below hb'⟩
  by_cases hin : 0 ≤ p ∧ p < S.L.procs.length
  · obtain ⟨i, rfl⟩ := Int.eq_ofNat_of_zero_le hin.1
    have hi : i < S.L.procs.length := by omega
    have hiP : i < P.procs.length := by omega
    have htd := h.told i hi
    by_cases h20 : (S.L.procs[i]).2.phase = 20
    · refine same ?_ (kstep_done h.rep i hiP (by rw [htd]; exact h20) draw fun W hW => ?_)
      · unfold gstep
        rw [if_neg]
        rintro ⟨_, _, x⟩
        rw [Int.toNat_natCast, phaseAt_eq S.L i hi] at x
        exact x h20
      · have hv0 : 0 < P.nodes.length := by rw [h.rel.rel.plen]; omega
        obtain ⟨g, hf⟩ := PF.start hW hv0 hiP
        refine pStep_done hf ?_ draw
        have : P.procs[i] = toPP (S.L.procs[i]).2 := by simp [h.rel.rel.procs]
        rw [this]
        exact h20
    · obtain ⟨v, n, hh⟩ := h.rel.rel.here hi h20
      obtain ⟨p', hwt⟩ := hh.went h.rel.ck draw
      obtain ⟨ph, hps, _, _⟩ := h.rel.next (B := B) hi h20 draw
      have hlen' := went_len hwt
      have hph := hh.q.phase
      have eg : gstep S i draw = ⟨lstep S.L i draw, S.ops, S.went.set i true⟩ := by
        unfold gstep
        rw [if_pos ⟨hin.1, hin.2, by rw [Int.toNat_natCast, phaseAt_eq S.L i hi]; exact h20⟩, Int.toNat_natCast]
      have hF : ∀ P' : PLay, (P'.tb = P.tb ∧ CRel c (lstep S.L i draw) P') → P'.tb = P.tb ∧ P'.c = P.c ∧ P'.procs.length = P.procs.length ∧ (P'.procs.getD i zeroPP).phase = p'.phase := by
        rintro P' ⟨a, b⟩
        have hl' := b.plen
        refine ⟨a, by rw [b.rel.cP, h.rel.rel.cP], by omega, ?_⟩
        have e : P'.procs.getD i zeroPP = toPP ((lstep S.L i draw).procs[i]'(by omega)).2 := by
          rw [b.rel.procs, List.getD_eq_getElem?_getD, List.getElem?_map, List.getElem?_eq_getElem (by omega)]
          rfl
        rw [e, went_self hwt (by omega)]
        rfl
      have hsr := fun W (hW : PRep W B P) (hBW : B ≤ W.heap.size) => pStep_ret (B := B) hiP (by rw [show P.procs[i] = toPP (S.L.procs[i]).2 by simp [h.rel.rel.procs]]; exact h20) draw (F := fun P' => P'.tb = P.tb ∧ CRel c (lstep S.L i draw) P') (fun P' hP' => ⟨(hF P' hP').1, (hF P' hP').2.2.1⟩) hps.1 hW hBW
      rw [eg]
      refine (kstep_run h.rep h.hB i hiP draw p'.phase (S.L.procs[i]).2.phase (by rw [htd]) hph.1 (by omega) hwt.pm.behind (fun P' => P'.tb = P.tb ∧ CRel c (lstep S.L i draw) P') ?_ ?_).mono ?_
      · intro P' hP'
        obtain ⟨a, b, d, e⟩ := hF P' hP'
        refine ⟨a, b, d, ?_⟩
        unfold toldP
        rw [if_pos ⟨by omega, by omega⟩, Int.toNat_natCast]
        exact e
      · intro W hW hBW
        refine (hsr W hW hBW).mono ?_
        rintro x w' ⟨⟨P', rfl, hP', hr⟩, hc⟩
        exact ⟨by rw [(hF P' hP').2.2.2], ⟨P', hP', hr⟩, hc⟩
      · rintro e w' ⟨rfl, ⟨P', hP', hr⟩, hc⟩
        refine ⟨rfl, ⟨P', hr, hP'.2, Nat.le_trans h.hB hc.size, ?_⟩, hc.mono (Nat.le_refl _) (by simp)⟩
        refine ⟨by simp only [List.length_set]; rw [hlen']; exact h.of.wlen, by show S.ops = opsL (lstep S.L i draw); rw [opsL_went hwt hi rfl]; exact h.of.op, slot_went hwt hi rfl h.of.slot, fun j hj hj' hw => ?_⟩
        simp only at hj hj' hw ⊢
        by_cases e : j = i
        · subst e
          rw [List.getElem_set_self] at hw
          exact absurd hw (by simp)
        · rw [List.getElem_set_ne (Ne.symm e)] at hw
          have hjL : j < S.L.procs.length := by omega
          obtain ⟨x1, x2, x3, x4, x5, x6, _⟩ := pp_told (went_other hwt j hjL hj e)
          have := h.of.new j hjL (by have := h.of.wlen; omega) hw
          rw [x1, x2, x3, x4, x5, x6]
          exact this
  · refine same ?_ (kstep_none h.rep p (by omega) draw)
    unfold gstep
    rw [if_neg]
    rintro ⟨x, y, _⟩
    exact hin ⟨x, y⟩

end Go.Proofs.Ytjnmpejcegmkhab

namespace Go.Proofs.Ytjnmpejcegmkhab
open Go.RowKit

theorem KSt.at {w : World} {B hb : Nat} {c : Conf} {S : Gh} {P : PLay} (h : KSt w B hb c S P) {W : World} (hw : Below w.heap.size w W) (p : Nat) (hp : p < S.L.procs.length) :
    Calls Try.prog 16 #[.pointer (some ⟨hb, 0, none⟩), I p] W fun e w' => e = .returned (.agg #[I (S.L.procs[p]).2.phase, I (S.L.procs[p]).2.node, I (S.L.procs[p]).2.val]) ∧ Below W.heap.size W w' := by
  have := kat_c (h.rep.below hw) (p : Int)
  rw [h.told p hp] at this
  exact this
theorem KSt.nodes {w : World} {B hb : Nat} {c : Conf} {S : Gh} {P : PLay} (h : KSt w B hb c S P) {W : World} (hw : Below w.heap.size w W) :
    Calls Try.prog 13 #[.pointer (some ⟨P.tb, 0, none⟩)] W fun e w' => ∃ x l, e = .returned x ∧ NodesRep w' W.heap.size x l ∧ l.map (fun y => y.1) = rnodes S.L ∧ Below W.heap.size W w' :=
  (h.rel.rel.agree h.rel.ck.si h.rep.prog).nodes W hw
theorem KSt.shaped {w : World} {B hb : Nat} {c : Conf} {S : Gh} {P : PLay} (h : KSt w B hb c S P) {b : Nat} {x : Value} {l : List (ND × Value × Value)} (hr : NodesRep w b x l) (el : l.map (fun y => y.1) = rnodes S.L) :
    Calls Try.prog 14 #[.pointer (some ⟨hb, 0, none⟩), x] w fun e w' => e = .returned (.bool true) ∧ Below w.heap.size w w' := by
  have hc := h.rep.conf.2.1
  have hcf := h.rel.rel.confs
  have e : P.c.depth = ((c.depth.toNat : Nat) : Int) := by rw [h.rel.rel.cP]; omega
  rw [e] at hc
  exact shaped_c c.depth.toNat hc hr (by rw [el]; exact h.rel.shaped)
theorem KSt.opsAt {w : World} {B hb : Nat} {c : Conf} {S : Gh} {P : PLay} (h : KSt w B hb c S P) : ∃ ao cap, w.cell? ⟨hb, 9, none⟩ = some (.slice ao S.L.procs.length cap) ∧ S.L.procs.length ≤ cap ∧ S.L.procs.length ≤ 256 ∧ cap ≤ maxLen := by
  obtain ⟨_, _, _, ao, cap, c9, q1, q2, q3⟩ := h.rep.conf
  have e : S.ops.length = S.L.procs.length := h.rep.len.trans h.rel.plen
  rw [e] at c9 q1
  exact ⟨ao, cap, c9, q1, h.rel.rel.np, q3⟩

end Go.Proofs.Ytjnmpejcegmkhab

namespace Go.Proofs.Ytjnmpejcegmkhab
open Go.RowKit

/-- Who is not Done, of the first k. -/
def livTo (ps : Prs) : Nat → List Nat
  | 0 => []
  | k + 1 => livTo ps k ++ (if h : k < ps.length then (if (ps[k]).2.phase = 20 then [] else [k]) else [])
theorem livTo_len (ps : Prs) : ∀ k, (livTo ps k).length ≤ k
  | 0 => Nat.le_refl _
  | k + 1 => by
    have := livTo_len ps k
    simp only [livTo, List.length_append]
    split
    · split <;> simp <;> omega
    · simp; omega
theorem livTo_lt (ps : Prs) : ∀ k x, x ∈ livTo ps k → x < k ∧ x < ps.length
  | 0, x, h => by simp [livTo] at h
  | k + 1, x, h => by
    simp only [livTo, List.mem_append] at h
    rcases h with h | h
    · have := livTo_lt ps k x h; omega
    · split at h
      · split at h
        · simp at h
        · simp only [List.mem_cons, List.not_mem_nil, or_false] at h; omega
      · simp at h
theorem livTo_no (ps : Prs) : ∀ k i, i < k → (hi : i < ps.length) → i ∉ livTo ps k → (ps[i]).2.phase = 20
  | 0, i, h, _, _ => by omega
  | k + 1, i, h, hi, hn => by
    simp only [livTo, List.mem_append, not_or] at hn
    by_cases e : i = k
    · subst e
      have := hn.2
      rw [dif_pos hi] at this
      by_cases e20 : (ps[i]).2.phase = 20
      · exact e20
      · rw [if_neg e20] at this
        simp at this
    · exact livTo_no ps k i (by omega) hi hn.1

/-- Round the list from f on, either way: each is met. -/
theorem turn_up (m f t : Nat) (hf : f < m) (ht : t < m) : ∃ i, i < m ∧ (f + i) % m = t := by
  by_cases h : f ≤ t
  · exact ⟨t - f, by omega, by rw [show f + (t - f) = t by omega]; exact Nat.mod_eq_of_lt ht⟩
  · refine ⟨t + m - f, by omega, ?_⟩
    rw [show f + (t + m - f) = t + m by omega, Nat.add_mod_right]
    exact Nat.mod_eq_of_lt ht
theorem turn_down (m f t : Nat) (hf : f < m) (ht : t < m) : ∃ i, i < m ∧ (f + m - i) % m = t := by
  by_cases h : t ≤ f
  · refine ⟨f - t, by omega, ?_⟩
    rw [show f + m - (f - t) = t + m by omega, Nat.add_mod_right]
    exact Nat.mod_eq_of_lt ht
  · refine ⟨f + m - t, by omega, ?_⟩
    rw [show f + m - (f + m - t) = t by omega]
    exact Nat.mod_eq_of_lt ht

theorem kcalm_c (c : Conf) (hm : mayC c = true) (w : World) : Calls Try.prog 30 #[confV c] w fun e w' => e = .returned (I (calmR c)) ∧ Below w.heap.size w w' := by
  have hc : 0 ≤ c.depth ∧ c.depth ≤ 4 ∧ 0 ≤ c.spin ∧ c.spin ≤ 8 ∧ 0 ≤ c.drain ∧ c.drain ≤ 16 ∧ 1 ≤ c.procs ∧ c.procs ≤ 16 := by simp [mayC] at hm; omega
  have HR : Hid (calmR c = (c.procs + 1) * (c.drain + 8) + (c.depth + 1) * (c.spin + 12)) := rfl
  unfold confV
  generalize calmR c = R at *
  obtain ⟨kd, dp, st, sl, wd, sp, dr, pr⟩ := c
  simp only at *
  have b1 : (pr + 1) * (dr + 8) ≤ 17 * 24 := Int.mul_le_mul (by omega) (by omega) (by omega) (by omega)
  have b2 : 0 ≤ (pr + 1) * (dr + 8) := Int.mul_nonneg (by omega) (by omega)
  have b3 : (dp + 1) * (sp + 12) ≤ 5 * 20 := Int.mul_le_mul (by omega) (by omega) (by omega) (by omega)
  have b4 : 0 ≤ (dp + 1) * (sp + 12) := Int.mul_nonneg (by omega) (by omega)
  have hb : Below w.heap.size w (w.alloc (.cells #[I kd, I dp, I st, I sl, I wd, I sp, I dr, I pr] 23)) := (Below.refl _ _).alloc (Nat.le_refl _) _
  clear hm
  go_enter Try.func30, Try.ntmps30
  go_wp2_with fail
  go_ret
  exact ⟨by rw [HR.out]; rfl, hb⟩

end Go.Proofs.Ytjnmpejcegmkhab

namespace Go.Proofs.Ytjnmpejcegmkhab
open Go.RowKit

def ovalAt (ps : Ps) (m : Int) : Int := ((ps[m.toNat]?).map fun x => x.2.oval).getD 0
theorem ovalAt_set {ps : Ps} {i : Nat} (hi : i < ps.length) {x : Nat × Pr} (hk : x.2.oval = (ps[i]).2.oval) (m : Int) : ovalAt (ps.set i x) m = ovalAt ps m := by
  unfold ovalAt
  by_cases e : m.toNat = i
  · rw [e, List.getElem?_set_self hi, List.getElem?_eq_getElem hi]
    simp [hk]
  · rw [List.getElem?_set_ne (Ne.symm e)]

/-- What a process has to do with the value x: a Put has brought it (1), a Get has it (-1). -/
def vP (x : Int) (ps : Ps) (p : Pr) : Int :=
  if p.kind = 1 then (if p.oval = x ∧ (19 ≤ p.phase ∨ (metB p = true ∧ kindAt ps p.met ≠ 1)) then 1 else 0)
  else if p.kind = 2 then (if (19 ≤ p.phase ∧ p.val = x) ∨ (metB p = true ∧ kindAt ps p.met ≠ 2 ∧ ovalAt ps p.met = x) then -1 else 0)
  else 0
/-- How often x lies in a leaf. -/
def cntH (x : Int) (l : Hist) : Int := if formH l = 2 then ((itemsH l).count x : Int) else 0
def cntS (x : Int) (L : Lay) : Int := sumN (fun w => cntH x (L.hist w)) L.past.length
def ValOk (L : Lay) : Prop := ∀ x, cntS x L = sumP (vP x L.procs) L.procs
def KdOk (L : Lay) : Prop := ∀ i, (hi : i < L.procs.length) → ((L.procs[i]).2.phase = 13 → (L.procs[i]).2.kind = 1) ∧ ((L.procs[i]).2.phase = 14 → (L.procs[i]).2.kind = 2)

theorem metB_no {p : Pr} (h : ¬ (p.phase = 6 ∨ p.phase = 7)) : metB p = false := by
  unfold metB
  have h6 : ¬ p.phase = 6 := fun x => h (Or.inl x)
  have h7 : ¬ p.phase = 7 := fun x => h (Or.inr x)
  simp [h6, h7]
theorem metB_yes {p : Pr} (h : p.phase = 6 ∨ p.phase = 7) (hm : 0 ≤ p.met) : metB p = true := by
  unfold metB
  rcases h with x | x <;> simp [x, hm]
theorem vP_lo {x : Int} {ps : Ps} {p : Pr} (h : ¬ (p.phase = 6 ∨ p.phase = 7)) (h19 : p.phase < 19) : vP x ps p = 0 := by
  have h9 : ¬ 19 ≤ p.phase := by omega
  unfold vP
  rw [metB_no h]
  simp [h9]
theorem vP_ch {x : Int} {ps : Ps} {p : Pr} (h : 3 ≤ p.kind) : vP x ps p = 0 := by
  unfold vP
  rw [if_neg (by omega), if_neg (by omega)]
theorem vP_un {x : Int} {ps : Ps} {p : Pr} (h : p.phase = 6 ∨ p.phase = 7) (hm : p.met < 0) : vP x ps p = 0 := by
  have : metB p = false := by
    unfold metB
    have : ¬ 0 ≤ p.met := by omega
    simp [this]
  have h9 : ¬ 19 ≤ p.phase := by omega
  unfold vP
  rw [this]
  simp [h9]
theorem vP_met1 {x : Int} {ps : Ps} {p : Pr} (h : p.phase = 6 ∨ p.phase = 7) (hm : 0 ≤ p.met) (k : p.kind = 1) : vP x ps p = if p.oval = x ∧ kindAt ps p.met ≠ 1 then 1 else 0 := by
  have h9 : ¬ 19 ≤ p.phase := by omega
  unfold vP
  rw [metB_yes h hm, if_pos k]
  simp [h9]
theorem vP_met2 {x : Int} {ps : Ps} {p : Pr} (h : p.phase = 6 ∨ p.phase = 7) (hm : 0 ≤ p.met) (k : p.kind = 2) : vP x ps p = if kindAt ps p.met ≠ 2 ∧ ovalAt ps p.met = x then -1 else 0 := by
  have h9 : ¬ 19 ≤ p.phase := by omega
  unfold vP
  rw [metB_yes h hm, if_neg (by omega), if_pos k]
  simp [h9]
theorem vP_end1 {x : Int} {ps : Ps} {p : Pr} (h : 19 ≤ p.phase) (k : p.kind = 1) : vP x ps p = if p.oval = x then 1 else 0 := by
  unfold vP
  rw [if_pos k]
  simp [h]
theorem vP_end2 {x : Int} {ps : Ps} {p : Pr} (h : 19 ≤ p.phase) (k : p.kind = 2) : vP x ps p = if p.val = x then -1 else 0 := by
  unfold vP
  rw [metB_no (by omega), if_neg (by omega), if_pos k]
  simp [h]

theorem vP_set {x : Int} {ps : Ps} {i : Nat} (hi : i < ps.length) {y : Nat × Pr} (hk : y.2.kind = (ps[i]).2.kind) (ho : y.2.oval = (ps[i]).2.oval) : vP x (ps.set i y) = vP x ps := by
  funext p
  unfold vP
  rw [kindAt_set hi hk, ovalAt_set hi ho]

theorem val_one {L L' : Lay} (h : ValOk L) {i : Nat} (hi : i < L.procs.length) {pb : Nat} {p' : Pr} (hp : L'.procs = L.procs.set i (pb, p')) (hk : p'.kind = (L.procs[i]).2.kind) (ho : p'.oval = (L.procs[i]).2.oval) (hs : ∀ x, cntS x L' = cntS x L + (vP x L.procs p' - vP x L.procs (L.procs[i]).2)) : ValOk L' := by
  intro x
  rw [hp, vP_set hi hk ho, sumP_set _ _ _ hi, hs x, h x]
  simp only
  omega

theorem cntS_hap (x : Int) (L : Lay) (v : Nat) (y : Value) (ev : Ev) (iv : Value) (hv : v < L.past.length) : cntS x (L.hap v y ev iv) = cntS x L + (cntH x ((ev, iv) :: L.hist v) - cntH x (L.hist v)) := by
  unfold cntS
  rw [hap_len]
  have := sumN_upd (fun w => cntH x (L.hist w)) (fun w => cntH x ((L.hap v y ev iv).hist w)) v L.past.length hv (fun k _ hne => by rw [hist_hap L v k y ev iv hv, if_neg hne])
  rw [this, hist_hap L v v y ev iv hv, if_pos rfl]
  omega

theorem cnt_over (x : Int) (l : Hist) (ev : Ev) (iv : Value) (h3 : 3 < ev.what) (h6 : ev.what ≠ 6) (h8 : ev.what ≠ 8) (h9 : ev.what ≠ 9) : cntH x ((ev, iv) :: l) = cntH x l := by
  have hn3 : ¬ ev.what ≤ 3 := by omega
  unfold cntH
  rw [items_over l ev iv h3 h6 h8 h9]
  simp [formH, hn3]

theorem fm_same (f g : Nat → Option Int) : ∀ m, (∀ u, u < m → g u = f u) → (List.range m).filterMap g = (List.range m).filterMap f
  | 0, _ => rfl
  | m + 1, h => by
    rw [List.range_succ, List.filterMap_append, List.filterMap_append, fm_same f g m (fun u hu => h u (by omega))]
    congr 1
    have e := h m (by omega)
    simp only [List.filterMap_cons, List.filterMap_nil, e]
theorem fm_one (x : Int) (f : Nat → Option Int) (k : Nat) : ((([k] : List Nat).filterMap f).count x : Int) = if f k = some x then 1 else 0 := by
  cases h : f k with
  | none => simp [h]
  | some y =>
    by_cases e : y = x
    · subst e; simp [h]
    · simp [h, e]
theorem fm_upd (x : Int) (f g : Nat → Option Int) (t : Nat) : ∀ m, t < m → (∀ u, u ≠ t → g u = f u) → ((((List.range m).filterMap g).count x : Nat) : Int) = ((((List.range m).filterMap f).count x : Nat) : Int) - (if f t = some x then 1 else 0) + (if g t = some x then 1 else 0)
  | 0, ht, _ => by omega
  | m + 1, ht, h => by
    rw [List.range_succ, List.filterMap_append, List.filterMap_append, List.count_append, List.count_append]
    push_cast
    rw [fm_one, fm_one]
    by_cases e : t = m
    · subst e
      rw [fm_same f g t (fun u hu => h u (by omega))]
      omega
    · rw [fm_upd x f g t m (by omega) h, h m (by omega)]
      omega

theorem evod_cnt (x : Int) (X : List Int) : ∀ k, k ≤ X.length → (evT X k).count x + (odT X k).count x = (X.take k).count x
  | 0, _ => by simp [evT, odT]
  | k + 1, h => by
    have ih := evod_cnt x X k (by omega)
    rw [List.take_add_one, List.getElem?_eq_getElem (by omega), List.count_append]
    by_cases hk : k % 2 = 0
    · obtain ⟨e1, e2⟩ := evT_even X k (by omega) hk
      rw [e1, e2, List.count_append]
      simp only [Option.toList_some]
      omega
    · obtain ⟨e1, e2⟩ := evT_odd X k (by omega) hk
      rw [e1, e2, List.count_append]
      simp only [Option.toList_some]
      omega
theorem alt_cnt (z : Int) : ∀ (f : Nat) (x y : List Int), x.length + y.length ≤ f → (x.length = y.length ∨ x.length = y.length + 1) → (altF f x y).count z = x.count z + y.count z
  | 0, x, y, hf, _ => by
    have hx : x = [] := List.eq_nil_of_length_eq_zero (by omega)
    have hy : y = [] := List.eq_nil_of_length_eq_zero (by omega)
    subst hx hy
    simp [altF]
  | f + 1, [], y, _, hd => by
    have hy : y = [] := List.eq_nil_of_length_eq_zero (by simp at hd; omega)
    subst hy
    simp [altF]
  | f + 1, a :: x, y, hf, hd => by
    simp only [List.length_cons] at hf hd
    have ih := alt_cnt z f y x (by omega) (by omega)
    simp only [altF, List.count_cons]
    rw [ih]
    omega

/-- Behind a Put's ticket nothing more lies there. -/
theorem cnt6 (x : Int) {c : Conf} {l : Hist} {its : List (Int × Int)} (hi : ItemsRel c l its) (hc : c.kind = 1) : cntH x ((⟨6, 0, 0, []⟩, nilV) :: l) = cntH x l := by
  have hl := hi.len hc
  have e6 : (putsH ((⟨6, 0, 0, []⟩, nilV) :: l)).toNat = (putsH l).toNat + 1 := by
    unfold putsH at hl ⊢
    simp [fromH, manyH]
    omega
  have eit : ∀ u : Nat, itemH ((⟨6, 0, 0, []⟩, nilV) :: l) u = itemH l u := by
    intro u
    unfold itemH takenH
    simp [manyH, fromH, laidH]
  have hz : itemH l ((putsH l).toNat : Nat) = none := by
    rw [hi.it, ← hl]
    simp [List.getD_eq_getElem?_getD]
  have e1 : itemsH ((⟨6, 0, 0, []⟩, nilV) :: l) = itemsH l := by
    show itemsTo _ _ = itemsTo _ _
    rw [e6]
    have : itemsTo ((⟨6, 0, 0, []⟩, nilV) :: l) ((putsH l).toNat + 1) = itemsTo l ((putsH l).toNat + 1) := fm_same _ _ _ fun u _ => eit u
    rw [this, itemsTo_succ, hz]
    simp
  unfold cntH
  rw [e1]
  simp [formH]
theorem cnt8 (x : Int) {l : Hist} (hf : formH l = 2) {t : Nat} {y : Int} (ht : (t : Int) < putsH l) (h1 : takenH l t = false) (h2 : itemH l t = none) : cntH x ((⟨8, t, y, []⟩, nilV) :: l) = cntH x l + if y = x then 1 else 0 := by
  have hlow : ¬ ((t : Int) < ((fromH l).1.items.length : Int)) := by
    intro hlt
    have := h2
    unfold itemH at this
    rw [if_neg (by rw [h1]; simp), if_pos hlt] at this
    simp at this
  have e6 : putsH ((⟨8, t, y, []⟩, nilV) :: l) = putsH l := by simp [putsH, fromH, manyH]
  have etk : ∀ u, takenH ((⟨8, t, y, []⟩, nilV) :: l) u = takenH l u := fun u => by simp [takenH, manyH]
  have eit : ∀ u : Nat, u ≠ t → itemH ((⟨8, t, y, []⟩, nilV) :: l) u = itemH l u := by
    intro u hu
    unfold itemH
    rw [etk]
    have : ¬ ((t : Int) = (u : Int)) := by omega
    simp [fromH, laidH, this]
  have eself : itemH ((⟨8, t, y, []⟩, nilV) :: l) t = some y := by
    unfold itemH
    rw [etk, if_neg (by rw [h1]; simp)]
    rw [show fromH ((⟨8, t, y, []⟩, nilV) :: l) = fromH l from by simp [fromH], if_neg hlow]
    simp [laidH]
  unfold cntH
  rw [if_pos (by simp [formH, hf]), if_pos hf]
  unfold itemsH itemsTo
  rw [e6, fm_upd x (fun j : Nat => itemH l (j : Int)) (fun j : Nat => itemH ((⟨8, t, y, []⟩, nilV) :: l) (j : Int)) t _ (by omega) (fun u hu => eit u hu)]
  simp only [eself, h2]
  simp
theorem cnt9 (x : Int) {l : Hist} (hf : formH l = 2) {t : Nat} {y : Int} (ht : (t : Int) < putsH l) (h2 : itemH l t = some y) : cntH x ((⟨9, t, 0, []⟩, nilV) :: l) = cntH x l - if y = x then 1 else 0 := by
  have e6 : putsH ((⟨9, t, 0, []⟩, nilV) :: l) = putsH l := by simp [putsH, fromH, manyH]
  have etk : ∀ u : Nat, takenH ((⟨9, t, 0, []⟩, nilV) :: l) u = (decide (u = t) || takenH l u) := by
    intro u
    unfold takenH
    by_cases e : u = t
    · subst e; simp [manyH]; omega
    · have : ¬ ((t : Int) = (u : Int)) := by omega
      have h2 : ¬ ((u : Int) < 0) := by omega
      simp [manyH, e, this, h2]
  have eit : ∀ u : Nat, itemH ((⟨9, t, 0, []⟩, nilV) :: l) u = if u = t then none else itemH l u := by
    intro u
    unfold itemH
    rw [etk]
    by_cases e : u = t
    · simp [e]
    · simp [e, fromH, laidH]
  unfold cntH
  rw [if_pos (by simp [formH, hf]), if_pos hf]
  unfold itemsH itemsTo
  rw [e6, fm_upd x (fun j : Nat => itemH l (j : Int)) (fun j : Nat => itemH ((⟨9, t, 0, []⟩, nilV) :: l) (j : Int)) t _ (by omega) (fun u hu => by rw [eit, if_neg hu])]
  simp only [eit, h2]
  simp

end Go.Proofs.Ytjnmpejcegmkhab

namespace Go.Proofs.Ytjnmpejcegmkhab
open Go.RowKit

section
variable {c : Conf} {L : Lay} {P : PLay} {i v : Nat} {p : Pr} {n : PN}

theorem Here.kd (h : Here c L P i v p n) (ck : CK c L P) (hc : c.kind = 1) (draw : Int) (hk : KdOk L) : KdOk (lstep L i draw) := by
  obtain ⟨p', hw⟩ := h.went ck draw
  have hi := h.hi
  have hep := h.ep
  have hlen := went_len hw
  have hpr := hw.procs
  have hcq := ck.ci.cq i hi
  rw [hep] at hcq
  have hkp := hcq.kp
  have hqk := h.q.kind
  intro j hj
  have hj0 : j < L.procs.length := by omega
  by_cases e : j = i
  · subst e
    have e1 : (toPPs (lstep L j draw).procs)[j]? = some (toPP p') := by rw [hpr, List.getElem?_set_self (by rw [toPPs_len]; exact hi)]
    have e2 : (toPPs (lstep L j draw).procs)[j]? = some (toPP ((lstep L j draw).procs[j]).2) := by simp [toPPs, hj]
    rw [e2] at e1
    have ht := pp_told (Option.some.inj e1)
    have hk0 := hk j hi
    rw [hep] at hk0
    have hop := hw.op.1
    have hph : ((lstep L j draw).procs[j]).2.phase = p'.phase := ht.2.2.2.1
    have hkd : ((lstep L j draw).procs[j]).2.kind = p'.kind := ht.1
    rw [hph, hkd, hop]
    have hpm := hw.pm
    have c13 : p'.phase = 13 → p.phase = 12 ∨ p.phase = 13 := by
      intro e
      rw [e] at hpm
      generalize p.phase = a at *
      generalize p'.node = nd at *
      clear hk0 hkp hcq
      cases hpm <;> omega
    have c14 : p'.phase = 14 → p.phase = 12 ∨ p.phase = 14 := by
      intro e
      rw [e] at hpm
      generalize p.phase = a at *
      generalize p'.node = nd at *
      clear hk0 hkp hcq
      cases hpm <;> omega
    have c12 : p.phase = 12 → (p.kind = 0 ∧ p'.phase = 19) ∨ (p.kind = 1 ∧ p'.phase = 13) ∨ (p.kind ≠ 0 ∧ p.kind ≠ 1 ∧ p'.phase = 14) := by
      intro e12
      have e3 : ∀ (q : Pr) (ev : Ev), toPPs (((L.setP j (incPr p)).hap v nilV ev nilV).setP j q).procs = (toPPs L.procs).set j (toPP q) := by
        intro q ev
        rw [toPPs_setP]
        show (toPPs (L.setP j (incPr p)).procs).set j _ = _
        rw [toPPs_setP, List.set_set]
      rw [h.lat draw, h.lget] at hpr
      simp only at hpr
      rw [if_neg (by omega), if_neg (by omega), if_neg (by omega), if_neg (by omega), if_pos e12] at hpr
      by_cases k0 : p.kind = 0
      · rw [if_pos k0, e3] at hpr
        exact Or.inl ⟨k0, (pp_told (toPPs_setP_get (by rw [toPPs_len]; exact hi) hpr)).2.2.2.1.symm⟩
      · rw [if_neg k0] at hpr
        by_cases k1 : p.kind = 1
        · rw [if_pos k1, e3] at hpr
          exact Or.inr (Or.inl ⟨k1, (pp_told (toPPs_setP_get (by rw [toPPs_len]; exact hi) hpr)).2.2.2.1.symm⟩)
        · rw [if_neg k1, e3] at hpr
          exact Or.inr (Or.inr ⟨k0, k1, (pp_told (toPPs_setP_get (by rw [toPPs_len]; exact hi) hpr)).2.2.2.1.symm⟩)
    have hch := hkp.chg
    refine ⟨fun e13 => ?_, fun e14 => ?_⟩
    · rcases c13 e13 with a | a
      · have := c12 a; omega
      · exact hk0.1 a
    · rcases c14 e14 with a | a
      · have := c12 a
        have : p.kind < 3 := Int.not_le.1 fun x => by have := hch x; omega
        omega
      · exact hk0.2 a
  · have e1 : (toPPs (lstep L i draw).procs)[j]? = (toPPs L.procs)[j]? := by rw [hpr, List.getElem?_set_ne (Ne.symm e)]
    have e2 : (toPPs (lstep L i draw).procs)[j]? = some (toPP ((lstep L i draw).procs[j]).2) := by simp [toPPs, hj]
    have e3 : (toPPs L.procs)[j]? = some (toPP (L.procs[j]).2) := by simp [toPPs, hj0]
    rw [e2, e3] at e1
    have ht := pp_told (Option.some.inj e1)
    rw [ht.2.2.2.1, ht.1]
    exact hk j hj0

theorem Here.val (h : Here c L P i v p n) (ck : CK c L P) (hc : c.kind = 1) (draw : Int) (hkd : KdOk L) (ht : ValOk L) : ValOk (lstep L i draw) := by
  have hi := h.hi
  have hep := h.ep
  have hv := h.vN
  have ha := h.at'
  have hph := h.q.phase
  have hlive := h.live
  have hcq := ck.ci.cq i hi
  rw [hep] at hcq
  have hkp := hcq.kp
  have hqk := h.q.kind
  have hk0 := hkd i hi
  rw [hep] at hk0
  have stay : ∀ q p' : Pr, p'.kind = p.kind → p'.oval = p.oval → (∀ x, vP x L.procs p' = vP x L.procs p) → ValOk ((L.setP i q).setP i p') := by
    intro q p' e1 e3 e2
    refine val_one ht hi (pb := (L.procs.getD i (0, q)).1) (p' := p') ?_ (by rw [hep]; exact e1) (by rw [hep]; exact e3) fun x => ?_
    · show (L.procs.set i _).set i _ = _
      rw [List.set_set]
      congr 2
      simp [List.getD_eq_getElem?_getD, hi]
    · rw [hep, e2]
      show cntS x L = _
      omega
  have one : ∀ p' : Pr, p'.kind = p.kind → p'.oval = p.oval → (∀ x, vP x L.procs p' = vP x L.procs p) → ValOk (L.setP i p') := by
    intro p' e1 e3 e2
    refine val_one ht hi (pb := (L.procs.getD i (0, p')).1) (p' := p') rfl (by rw [hep]; exact e1) (by rw [hep]; exact e3) fun x => ?_
    rw [hep, e2]
    show cntS x L = _
    omega
  have happ : ∀ (q p' : Pr) (ev : Ev), p'.kind = p.kind → p'.oval = p.oval → (∀ x, cntH x ((ev, nilV) :: L.hist v) - cntH x (L.hist v) = vP x L.procs p' - vP x L.procs p) → ValOk (((L.setP i q).hap v nilV ev nilV).setP i p') := by
    intro q p' ev e1 e3 e2
    refine val_one ht hi (pb := (L.procs.getD i (0, q)).1) (p' := p') ?_ (by rw [hep]; exact e1) (by rw [hep]; exact e3) fun x => ?_
    · show (L.procs.set i _).set i _ = _
      rw [List.set_set]
      congr 2
      simp [List.getD_eq_getElem?_getD, hi]
    · rw [hep, ← e2]
      have := cntS_hap x (L.setP i q) v nilV ev nilV hv
      exact this
  have lo : ∀ q : Pr, q.phase < 19 → ¬ (q.phase = 6 ∨ q.phase = 7) → ∀ x, vP x L.procs q = 0 := fun q a b x => vP_lo b a
  rw [h.lat draw, h.lget]
  simp only
  by_cases e8 : p.phase = 8
  · rw [if_pos e8]
    obtain ⟨j, hm, hj, hji⟩ := h.q.mind e8
    have ej : p.mind.toNat = j := by omega
    rw [ej, List.getElem?_eq_getElem hj]
    simp only
    have tp : ∀ x, vP x L.procs p = 0 := lo p (by omega) (by omega)
    split
    · rename_i hme
      unfold meets at hme
      simp only [Bool.and_eq_true, decide_eq_true_eq] at hme
      obtain ⟨⟨_, y6⟩, ymet⟩ := hme
      have hqj := (h.rel.qs j hj).kind
      have hkj := (ck.ci.cq j hj).kp
      obtain ⟨y, hy⟩ : ∃ y, (L.procs[j]).2 = y := ⟨_, rfl⟩
      rw [hy] at y6 ymet hqj hkj ⊢
      have kp3 : p.kind < 3 := Int.not_le.1 fun x => by have := hkp.chg x; omega
      have kj3 : y.kind < 3 := Int.not_le.1 fun x => by have := hkj.chg x; omega
      have ty : ∀ x, vP x L.procs y = 0 := fun x => vP_un (Or.inl y6) ymet
      have kat : kindAt L.procs (i : Int) = p.kind := by
        unfold kindAt
        simp [hi, hep]
      have oat : ovalAt L.procs (i : Int) = p.oval := by
        unfold ovalAt
        simp [hi, hep]
      obtain ⟨y', hy'⟩ : ∃ y' : Pr, y' = { y with met := (i : Int) } := ⟨_, rfl⟩
      have ky' : y'.kind = y.kind := by rw [hy']
      have oy' : y'.oval = y.oval := by rw [hy']
      have m6 : y'.phase = 6 := by rw [hy']; exact y6
      have mm : y'.met = (i : Int) := by rw [hy']
      have ks : (settledPr (incPr p) y 1).kind = p.kind ∧ (settledPr (incPr p) y 1).oval = p.oval := by
        unfold settledPr
        split
        · exact ⟨rfl, rfl⟩
        · split <;> exact ⟨rfl, rfl⟩
      have hbal : ∀ x, vP x L.procs y' + vP x L.procs (settledPr (incPr p) y 1) = 0 := by
        intro x
        by_cases e : p.kind = y.kind
        · have s0 : vP x L.procs (settledPr (incPr p) y 1) = 0 := by
            unfold settledPr
            rw [if_pos (show (incPr p).kind = y.kind from e)]
            exact vP_lo (by show ¬ ((0 : Int) = 6 ∨ (0 : Int) = 7); decide) (by show (0 : Int) < 19; decide)
          rw [s0]
          have : y'.kind = 1 ∨ y'.kind = 2 := by omega
          rcases this with k | k
          · rw [vP_met1 (Or.inl m6) (by omega) k, mm, kat, if_neg (fun z => z.2 (by omega))]
            rfl
          · rw [vP_met2 (Or.inl m6) (by omega) k, mm, kat, if_neg (fun z => z.1 (by omega))]
            rfl
        · have : (p.kind = 1 ∧ y.kind = 2) ∨ (p.kind = 2 ∧ y.kind = 1) := by omega
          rcases this with ⟨a, b⟩ | ⟨a, b⟩
          · have s0 : vP x L.procs (settledPr (incPr p) y 1) = if p.oval = x then 1 else 0 := by
              unfold settledPr
              rw [if_neg (show ¬ (incPr p).kind = y.kind from e), if_neg (show ¬ (incPr p).kind = 2 by show ¬ p.kind = 2; omega)]
              exact vP_end1 (p := { incPr p with phase := 19 }) (by show (19 : Int) ≤ 19; decide) a
            rw [s0, vP_met2 (Or.inl m6) (by omega) (by omega), mm, kat, oat]
            by_cases z : p.oval = x
            · rw [if_pos ⟨by omega, z⟩, if_pos z]; rfl
            · rw [if_neg (fun u => z u.2), if_neg z]; rfl
          · have s0 : vP x L.procs (settledPr (incPr p) y 1) = if y.oval = x then -1 else 0 := by
              unfold settledPr
              rw [if_neg (show ¬ (incPr p).kind = y.kind from e), if_pos (show (incPr p).kind = 2 from a)]
              exact vP_end2 (p := { incPr p with val := y.oval, phase := 19 }) (by show (19 : Int) ≤ 19; decide) a
            rw [s0, vP_met1 (Or.inl m6) (by omega) (by omega), mm, kat, oy']
            by_cases z : y.oval = x
            · rw [if_pos ⟨z, by omega⟩, if_pos z]; rfl
            · rw [if_neg (fun u => z u.1), if_neg z]; rfl
      rw [← hy']
      generalize settledPr (incPr p) y 1 = p' at *
      obtain ⟨a, b, eproc⟩ : ∃ a b, (((L.setP i (incPr p)).setP j y').setP i p').procs = (L.procs.set j (a, y')).set i (b, p') := by
        have e3 : ∀ x0 x1 x2 : Nat × Pr, ((L.procs.set i x0).set j x1).set i x2 = (L.procs.set j x1).set i x2 := by
          intro x0 x1 x2
          rw [List.set_comm _ _ (Ne.symm hji), List.set_set]
        exact ⟨_, _, e3 _ (_, y') (_, p')⟩
      intro x
      have hx := ht x
      have eb : cntS x (((L.setP i (incPr p)).setP j y').setP i p') = cntS x L := rfl
      rw [eproc, eb]
      have hij : i < (L.procs.set j (a, y')).length := by simpa using hi
      have egi : ((L.procs.set j (a, y'))[i]).2 = p := by rw [List.getElem_set_ne hji]; exact hep
      have kk1 : (b, p').2.kind = ((L.procs.set j (a, y'))[i]).2.kind := by rw [egi]; exact ks.1
      have ko1 : (b, p').2.oval = ((L.procs.set j (a, y'))[i]).2.oval := by rw [egi]; exact ks.2
      have kk2 : (a, y').2.kind = (L.procs[j]).2.kind := by rw [hy]; exact ky'
      have ko2 : (a, y').2.oval = (L.procs[j]).2.oval := by rw [hy]; exact oy'
      rw [vP_set hij kk1 ko1, vP_set hj kk2 ko2, sumP_set _ _ _ hij, sumP_set _ _ _ hj, egi, hy]
      have h1 := hbal x
      have h2 := tp x
      have h3 := ty x
      simp only
      omega
    · refine stay _ _ rfl rfl fun x => ?_
      rw [tp]
      exact lo { incPr p with phase := 9 } (by show (9 : Int) < 19; decide) (by show ¬ ((9 : Int) = 6 ∨ (9 : Int) = 7); decide) x
  rw [if_neg e8]
  by_cases e9 : p.phase = 9
  · rw [if_pos e9]
    refine happ _ _ _ rfl rfl fun x => ?_
    rw [cnt_over x (L.hist v) ⟨5, _, 0, []⟩ nilV (by show (3 : Int) < 5; decide) (by show (5 : Int) ≠ 6; decide) (by show (5 : Int) ≠ 8; decide) (by show (5 : Int) ≠ 9; decide), lo p (by omega) (by omega) x, lo { incPr p with phase := 11 } (by show (11 : Int) < 19; decide) (by show ¬ ((11 : Int) = 6 ∨ (11 : Int) = 7); decide) x]
    omega
  rw [if_neg e9]
  by_cases e10 : p.phase = 10
  · rw [if_pos e10]
    refine happ _ _ _ rfl rfl fun x => ?_
    rw [cnt_over x (L.hist v) ⟨5, _, 0, []⟩ nilV (by show (3 : Int) < 5; decide) (by show (5 : Int) ≠ 6; decide) (by show (5 : Int) ≠ 8; decide) (by show (5 : Int) ≠ 9; decide), lo p (by omega) (by omega) x, lo { incPr p with phase := 11 } (by show (11 : Int) < 19; decide) (by show ¬ ((11 : Int) = 6 ∨ (11 : Int) = 7); decide) x]
    omega
  rw [if_neg e10]
  by_cases e11 : p.phase = 11
  · rw [if_pos e11]
    refine happ _ _ _ rfl rfl fun x => ?_
    rw [cnt_over x (L.hist v) ⟨4, 0, 0, []⟩ nilV (by show (3 : Int) < 4; decide) (by show (4 : Int) ≠ 6; decide) (by show (4 : Int) ≠ 8; decide) (by show (4 : Int) ≠ 9; decide), lo p (by omega) (by omega) x, vP_lo (by show ¬ ((0 : Int) = 6 ∨ (0 : Int) = 7); decide) (by show (0 : Int) < 19; decide)]
    omega
  rw [if_neg e11]
  by_cases e12 : p.phase = 12
  · rw [if_pos e12]
    have hf := h.isLeaf (by omega) (by omega)
    have hir := (h.nr.leaf hf).2.2.2
    have tp : ∀ x, vP x L.procs p = 0 := lo p (by omega) (by omega)
    have hk3 : p.kind < 3 := Int.not_le.1 fun x => by have := hkp.chg x; omega
    split
    · rename_i hk
      have hk' : p.kind = 0 := hk
      omega
    · split
      · refine happ _ _ _ rfl rfl fun x => ?_
        rw [cnt6 x hir hc, tp, vP_lo (by show ¬ ((13 : Int) = 6 ∨ (13 : Int) = 7); decide) (by show (13 : Int) < 19; decide)]
        omega
      · refine happ _ _ _ rfl rfl fun x => ?_
        rw [cnt_over x (L.hist v) ⟨7, 0, 0, []⟩ nilV (by show (3 : Int) < 7; decide) (by show (7 : Int) ≠ 6; decide) (by show (7 : Int) ≠ 8; decide) (by show (7 : Int) ≠ 9; decide), tp, vP_lo (by show ¬ ((14 : Int) = 6 ∨ (14 : Int) = 7); decide) (by show (14 : Int) < 19; decide)]
        omega
  rw [if_neg e12]
  by_cases e13 : p.phase = 13
  · rw [if_pos e13]
    have tp : ∀ x, vP x L.procs p = 0 := lo p (by omega) (by omega)
    split
    · refine happ _ _ _ rfl rfl fun x => ?_
      have hf := h.isLeaf (by omega) (by omega)
      obtain ⟨_, htp⟩ := h.q.tick.2.2 e13
      rw [h.toNat] at htp
      have h0 := h.rel.tk0 i hi (by rw [hep]; exact e13)
      rw [hep, h.toNat] at h0
      obtain ⟨t, et⟩ : ∃ t : Nat, p.ticket = (t : Int) := ⟨p.ticket.toNat, by have := h.q.tick.1; omega⟩
      rw [et] at h0 htp
      have e8 : cntH x ((⟨8, p.ticket, p.oval, []⟩, nilV) :: L.hist v) = cntH x (L.hist v) + if p.oval = x then 1 else 0 := by rw [et]; exact cnt8 x hf htp h0.1 h0.2
      have e1 : vP x L.procs { incPr p with phase := 19 } = if p.oval = x then 1 else 0 := vP_end1 (p := { incPr p with phase := 19 }) (by show (19 : Int) ≤ 19; decide) (hk0.1 e13)
      show cntH x ((⟨8, p.ticket, p.oval, []⟩, nilV) :: L.hist v) - cntH x (L.hist v) = vP x L.procs { incPr p with phase := 19 } - vP x L.procs p
      rw [e8, e1, tp]
      omega
    · refine one _ rfl rfl fun x => ?_
      rw [tp]
      exact lo (incPr p) (by show p.phase < 19; omega) (by show ¬ (p.phase = 6 ∨ p.phase = 7); omega) x
  rw [if_neg e13]
  by_cases e14 : p.phase = 14
  · rw [if_pos e14]
    have tp : ∀ x, vP x L.procs p = 0 := lo p (by omega) (by omega)
    split
    · rename_i y hy
      refine happ _ _ _ rfl rfl fun x => ?_
      have hf := h.isLeaf (by omega) (by omega)
      have hir := (h.nr.leaf hf).2.2.2
      obtain ⟨t, et⟩ : ∃ t : Nat, p.ticket = (t : Int) := ⟨p.ticket.toNat, by have := h.q.tick.1; omega⟩
      have etk : (incPr p).ticket = (t : Int) := et
      rw [etk] at hy
      have htp : (t : Int) < putsH (L.hist v) := by
        rw [← hir.len hc]
        have := hir.it t
        rw [hy] at this
        by_cases e : t < n.items.length
        · omega
        · rw [List.getD_eq_getElem?_getD, List.getElem?_eq_none (by omega)] at this
          simp at this
      have e9 : cntH x ((⟨9, p.ticket, 0, []⟩, nilV) :: L.hist v) = cntH x (L.hist v) - if y = x then 1 else 0 := by rw [et]; exact cnt9 x hf htp hy
      have e1 : vP x L.procs { incPr p with val := y, phase := 19 } = if y = x then -1 else 0 := vP_end2 (p := { incPr p with val := y, phase := 19 }) (by show (19 : Int) ≤ 19; decide) (hk0.2 e14)
      show cntH x ((⟨9, p.ticket, 0, []⟩, nilV) :: L.hist v) - cntH x (L.hist v) = vP x L.procs { incPr p with val := y, phase := 19 } - vP x L.procs p
      rw [e9, e1, tp]
      split <;> omega
    · refine one _ rfl rfl fun x => ?_
      rw [tp]
      exact lo (incPr p) (by show p.phase < 19; omega) (by show ¬ (p.phase = 6 ∨ p.phase = 7); omega) x
  rw [if_neg e14]
  by_cases e17 : p.phase = 17
  · rw [if_pos e17]
    have tg := h.target17 ck e17
    have hkid := tg.kid
    have h1v := h.v1
    have hk3 : 3 ≤ p.kind := Int.not_lt.1 fun x => hkp.walk x (by omega)
    have hcL := h.rel.cL
    have zero : ∀ (L' : Lay) (r : Int) (q : Pr), L'.procs = ((L.setP i q).setP i (upPr { incPr p with val := r })).procs → (∀ x, cntS x L' = cntS x L) → ValOk L' := by
      intro L' r q e1 e2
      refine val_one ht hi (pb := (L.procs.getD i (0, q)).1) (p' := upPr { incPr p with val := r }) ?_ (by rw [hep]; rfl) (by rw [hep]; rfl) fun x => ?_
      · rw [e1]
        show (L.procs.set i _).set i _ = _
        rw [List.set_set]
        congr 2
        simp [List.getD_eq_getElem?_getD, hi]
      · rw [hep, e2, vP_ch (p := p) hk3, vP_ch (by show 3 ≤ p.kind; exact hk3)]
        omega
    split
    · rename_i hk4
      refine zero _ 1 (incPr p) rfl fun x => ?_
      have hf : formH (L.hist v) = 2 := by rw [tg.form, if_neg (by omega)]
      have hno : ∀ w, w / 2 = v → 2 ≤ w → w < L.past.length → formH (L.hist w) = 3 := by
        intro w hw h2 hwN
        by_cases f : formH (L.hist w) = 3
        · exact f
        · have := ck.ci.par w h2 hwN f
          rw [hw] at this
          omega
      have f0 := hno (2 * v) (by omega) (by omega) (by omega)
      have f1 := hno (2 * v + 1) (by omega) (by omega) hkid
      have b0 : cntH x (L.hist (2 * v)) = 0 := by unfold cntH; rw [f0]; simp
      have b1 : cntH x (L.hist (2 * v + 1)) = 0 := by unfold cntH; rw [f1]; simp
      have hN : unfN (L.setP i (incPr p)) v = ((itemsH (L.hist v)).length : Int) := by
        unfold unfN
        show (if L.c.kind = 0 then putsH (L.hist v) else ((itemsH (L.hist v)).length : Int)) = _
        rw [hcL, if_neg (by omega)]
      show cntS x ((L.setP i (incPr p)).unfolded v nilV nilV nilV nilV nilV) = cntS x L
      unfold Lay.unfolded
      rw [cntS_hap _ _ _ _ _ _ (by simp; omega), cntS_hap _ _ _ _ _ _ (by simp; omega), cntS_hap _ _ _ _ _ _ (by exact hv), hN]
      have gv : (L.setP i (incPr p)).hist v = L.hist v := rfl
      rw [gv]
      have hbv : cntH x (L.hist v) = ((itemsH (L.hist v)).count x : Int) := by unfold cntH; rw [if_pos hf]
      generalize hX : itemsH (L.hist v) = X at *
      obtain ⟨l1, l2⟩ := evT_len X X.length (Nat.le_refl _)
      have hcnt := evod_cnt x X X.length (Nat.le_refl _)
      rw [List.take_length] at hcnt
      generalize evT X X.length = E1 at *
      generalize odT X X.length = E2 at *
      have n1 : ((X.length : Int) + 1) / 2 = (E1.length : Int) := by omega
      have n2 : (X.length : Int) / 2 = (E2.length : Int) := by omega
      rw [n1, n2]
      have g1 : (((L.setP i (incPr p)).hap v nilV ⟨1, (X.length : Int) % 2, 0, []⟩ nilV).hist (2 * v)) = L.hist (2 * v) := by rw [hap_hist _ _ _ _ _ _ (by exact hv) (by omega)]; rfl
      have g2 : ((((L.setP i (incPr p)).hap v nilV ⟨1, (X.length : Int) % 2, 0, []⟩ nilV).hap (2 * v) nilV ⟨2, (E1.length : Int), 0, E1⟩ nilV).hist (2 * v + 1)) = L.hist (2 * v + 1) := by rw [hap_hist _ _ _ _ _ _ (by simp; omega) (by omega), hap_hist _ _ _ _ _ _ (by exact hv) (by omega)]; rfl
      rw [g1, g2, b0, b1]
      have eS : cntS x (L.setP i (incPr p)) = cntS x L := rfl
      rw [eS]
      have z0 : cntH x ((⟨1, (X.length : Int) % 2, 0, []⟩, nilV) :: L.hist v) = 0 := by simp [cntH, formH]
      have z1 : ∀ (E : List Int) (l : Hist), cntH x ((⟨2, (E.length : Int), 0, E⟩, nilV) :: l) = (E.count x : Int) := by
        intro E l
        unfold cntH
        rw [itemsH_leaf c hc, if_pos (by simp [formH])]
      rw [z0, z1, z1, hbv]
      omega
    · split
      · exact stay _ _ rfl rfl fun x => by rw [vP_ch (p := p) hk3, vP_ch (by show 3 ≤ p.kind; exact hk3)]
      · rename_i hk4 hno
        refine zero _ 1 (incPr p) rfl fun x => ?_
        have k3 : p.kind = 3 := by have := hcq.kinds; omega
        have hf : formH (L.hist v) = 1 := by rw [tg.form, if_pos k3]
        obtain ⟨kk1, kk2, kk3⟩ := h.rel.kids v h1v hv hf
        have r0 := (h.rel.nodes (2 * v) (by omega) (by omega)).form
        have r1 := (h.rel.nodes (2 * v + 1) (by omega) hkid).form
        have f0 : formH (L.hist (2 * v)) = 2 := by omega
        have f1 : formH (L.hist (2 * v + 1)) = 2 := by omega
        have bv : cntH x (L.hist v) = 0 := by unfold cntH; rw [hf]; simp
        have htog : balH (L.hist (2 * v)) - balH (L.hist (2 * v + 1)) = togH (L.hist v) := by
          have hl := h.rel.lenle
          have e := ck.ci.even v h1v hv hf
          rw [even_quiet hkid (by omega) h1v ?_ tg.even] at e
          · omega
          · intro w hw w0 w1 hs
            exact leaf_below (by omega) h.v32 h1v ck.ci.par (fun x => x = 2 * v ∨ x = 2 * v + 1) (Or.inr (fun x hx => by omega)) (fun x hx => by rcases hx with e | e <;> rw [e] <;> omega) w hw hs (by omega)
        have ht01 : togH (L.hist v) = 0 ∨ togH (L.hist v) = 1 := by unfold togH; omega
        have q0 := h.bal_pool ck tg hc _ (Or.inr (Or.inl rfl)) f0
        have q1 := h.bal_pool ck tg hc _ (Or.inr (Or.inr rfl)) f1
        have c0 : cntH x (L.hist (2 * v)) = ((itemsH (L.hist (2 * v))).count x : Int) := by unfold cntH; rw [if_pos f0]
        have c1 : cntH x (L.hist (2 * v + 1)) = ((itemsH (L.hist (2 * v + 1))).count x : Int) := by unfold cntH; rw [if_pos f1]
        have hN : foldN ((L.setP i (incPr p))) v = ((alt (itemsH (L.hist (2 * v))) (itemsH (L.hist (2 * v + 1)))).length : Int) := by
          unfold foldN
          show (if L.c.kind = 0 then putsH (L.hist (2 * v)) + putsH (L.hist (2 * v + 1)) else ((alt (itemsH (L.hist (2 * v))) (itemsH (L.hist (2 * v + 1)))).length : Int)) = _
          rw [hcL, if_neg (by omega)]
        show cntS x ((L.setP i (incPr p)).folded v nilV nilV nilV nilV) = cntS x L
        unfold Lay.folded
        rw [cntS_hap _ _ _ _ _ _ (by simp; omega), cntS_hap _ _ _ _ _ _ (by simp; omega), cntS_hap _ _ _ _ _ _ (by show 2 * v < L.past.length; omega), hN]
        have g1 : (((L.setP i (incPr p)).hap (2 * v) nilV ⟨3, 0, 0, []⟩ nilV).hist (2 * v + 1)) = L.hist (2 * v + 1) := by rw [hap_hist _ _ _ _ _ _ (by show 2 * v < L.past.length; omega) (by omega)]; rfl
        have g2 : ((((L.setP i (incPr p)).hap (2 * v) nilV ⟨3, 0, 0, []⟩ nilV).hap (2 * v + 1) nilV ⟨3, 0, 0, []⟩ nilV).hist v) = L.hist v := by rw [hap_hist _ _ _ _ _ _ (by simp; omega) (by omega), hap_hist _ _ _ _ _ _ (by show 2 * v < L.past.length; omega) (by omega)]; rfl
        rw [g1, g2, bv]
        have gv : (L.setP i (incPr p)).hist (2 * v) = L.hist (2 * v) := rfl
        have gw : (L.setP i (incPr p)).hist (2 * v + 1) = L.hist (2 * v + 1) := rfl
        rw [gv, gw]
        have eS : cntS x (L.setP i (incPr p)) = cntS x L := rfl
        rw [eS]
        have z0 : ∀ l : Hist, cntH x ((⟨3, 0, 0, []⟩, nilV) :: l) = 0 := by intro l; simp [cntH, formH]
        have hac := alt_cnt x _ (itemsH (L.hist (2 * v))) (itemsH (L.hist (2 * v + 1))) (Nat.le_refl _) (by omega)
        have z1 : cntH x ((⟨2, ((alt (itemsH (L.hist (2 * v))) (itemsH (L.hist (2 * v + 1)))).length : Int), 0, alt (itemsH (L.hist (2 * v))) (itemsH (L.hist (2 * v + 1)))⟩, nilV) :: L.hist v) = ((alt (itemsH (L.hist (2 * v))) (itemsH (L.hist (2 * v + 1)))).count x : Int) := by
          unfold cntH
          rw [itemsH_leaf c hc, if_pos (by simp [formH])]
        rw [z0, z0, z1, c0, c1]
        unfold alt
        rw [hac]
        omega
  rw [if_neg e17]
  have hmv : (lmove (L.setP i (incPr p)) v (incPr p) draw).kind = p.kind ∧ (lmove (L.setP i (incPr p)) v (incPr p) draw).oval = p.oval ∧ ∀ x, vP x L.procs (lmove (L.setP i (incPr p)) v (incPr p) draw) = vP x L.procs p := by
    have lo2 : ∀ q : Pr, q.phase < 19 → ¬ (q.phase = 6 ∨ q.phase = 7) → p.phase < 19 → ¬ (p.phase = 6 ∨ p.phase = 7) → ∀ x, vP x L.procs q = vP x L.procs p := by
      intro q b d e f x
      rw [lo q b d x, lo p e f x]
    have ch : ∀ q : Pr, q.kind = p.kind → 3 ≤ p.kind → ∀ x, vP x L.procs q = vP x L.procs p := by
      intro q a b x
      rw [vP_ch (by omega), vP_ch b]
    unfold lmove
    have ein : (incPr p).phase = p.phase := rfl
    rw [ein]
    by_cases e0 : p.phase = 0
    · rw [if_pos e0]
      exact ⟨rfl, rfl, lo2 _ (by show (1 : Int) < 19; decide) (by show ¬ ((1 : Int) = 6 ∨ (1 : Int) = 7); decide) (by omega) (by omega)⟩
    rw [if_neg e0]
    by_cases e1 : p.phase = 1
    · rw [if_pos e1]
      split
      · exact ⟨rfl, rfl, lo2 _ (by show (2 : Int) < 19; decide) (by show ¬ ((2 : Int) = 6 ∨ (2 : Int) = 7); decide) (by omega) (by omega)⟩
      · split
        · refine ⟨rfl, rfl, lo2 _ ?_ ?_ (by omega) (by omega)⟩
          · show (if _ then (3 : Int) else 12) < 19
            split <;> decide
          · show ¬ ((if _ then (3 : Int) else 12) = 6 ∨ (if _ then (3 : Int) else 12) = 7)
            split <;> decide
        · rename_i hk3
          have hk3' : 3 ≤ p.kind := Int.not_lt.1 hk3
          split
          · exact ⟨rfl, rfl, ch _ rfl hk3'⟩
          · exact ⟨rfl, rfl, ch _ rfl hk3'⟩
    rw [if_neg e1]
    by_cases e2 : p.phase = 2
    · rw [if_pos e2]
      exact ⟨rfl, rfl, lo2 _ (by show (0 : Int) < 19; decide) (by show ¬ ((0 : Int) = 6 ∨ (0 : Int) = 7); decide) (by omega) (by omega)⟩
    rw [if_neg e2]
    by_cases e3 : p.phase = 3
    · rw [if_pos e3]
      exact ⟨rfl, rfl, lo2 _ (by show (4 : Int) < 19; decide) (by show ¬ ((4 : Int) = 6 ∨ (4 : Int) = 7); decide) (by omega) (by omega)⟩
    rw [if_neg e3]
    by_cases e4 : p.phase = 4
    · rw [if_pos e4]
      split
      · exact ⟨rfl, rfl, lo2 _ (by show (5 : Int) < 19; decide) (by show ¬ ((5 : Int) = 6 ∨ (5 : Int) = 7); decide) (by omega) (by omega)⟩
      · split
        · split
          · exact ⟨rfl, rfl, lo2 _ (by show (11 : Int) < 19; decide) (by show ¬ ((11 : Int) = 6 ∨ (11 : Int) = 7); decide) (by omega) (by omega)⟩
          · exact ⟨rfl, rfl, lo2 _ (by show (8 : Int) < 19; decide) (by show ¬ ((8 : Int) = 6 ∨ (8 : Int) = 7); decide) (by omega) (by omega)⟩
        · exact ⟨rfl, rfl, lo2 _ (by show p.phase < 19; omega) (by show ¬ (p.phase = 6 ∨ p.phase = 7); omega) (by omega) (by omega)⟩
    rw [if_neg e4]
    by_cases e5 : p.phase = 5
    · rw [if_pos e5]
      split
      · refine ⟨rfl, rfl, fun x => ?_⟩
        rw [vP_un (Or.inl rfl) (by show (-1 : Int) < 0; decide), lo p (by omega) (by omega) x]
      · exact ⟨rfl, rfl, lo2 _ (by show (9 : Int) < 19; decide) (by show ¬ ((9 : Int) = 6 ∨ (9 : Int) = 7); decide) (by omega) (by omega)⟩
    rw [if_neg e5]
    by_cases e6 : p.phase = 6
    · rw [if_pos e6]
      unfold waitPr
      split
      · rename_i hm
        have hm0 : 0 ≤ p.met := hm
        refine ⟨rfl, rfl, fun x => ?_⟩
        have k12 : p.kind = 1 ∨ p.kind = 2 ∨ 3 ≤ p.kind := by omega
        rcases k12 with k | k | k
        · rw [vP_met1 (p := p) (Or.inl e6) hm0 k]
          exact vP_met1 (p := { incPr p with phase := 7 }) (Or.inr rfl) hm0 k
        · rw [vP_met2 (p := p) (Or.inl e6) hm0 k]
          exact vP_met2 (p := { incPr p with phase := 7 }) (Or.inr rfl) hm0 k
        · exact ch { incPr p with phase := 7 } rfl k x
      · rename_i hm
        have hm' : p.met < 0 := Int.not_le.1 hm
        split
        · refine ⟨rfl, rfl, fun x => ?_⟩
          rw [vP_un (p := p) (Or.inl e6) hm']
          exact vP_un (p := { incPr p with pat := (incPr p).pat - 1 }) (Or.inl e6) hm'
        · refine ⟨rfl, rfl, fun x => ?_⟩
          rw [vP_lo (by show ¬ ((10 : Int) = 6 ∨ (10 : Int) = 7); decide) (by show (10 : Int) < 19; decide), vP_un (p := p) (Or.inl e6) hm']
    rw [if_neg e6]
    by_cases e7 : p.phase = 7
    · rw [if_pos e7]
      obtain ⟨k, hk, hs⟩ := h.slotk
      have hf := h.inner (by omega) (by omega)
      have hsr := h.slotRel hf hk
      have hwi : waitP v k (L.procs[i]).2 = true := by
        rw [hep]
        unfold waitP
        simp [ha, hs, e7]
      obtain ⟨b, hb, hbl⟩ : ∃ b : Nat, p.met = (b : Int) ∧ b < L.procs.length := by
        rcases hsr with ⟨_, x⟩ | ⟨j, hj, _, _, x3, x4⟩
        · rw [x i hi] at hwi
          exact absurd hwi (by decide)
        · have eij := x3 i hi hwi
          subst eij
          rw [hep] at x4
          rcases x4 with x4 | ⟨_, b, _, x5, x6, _⟩
          · omega
          · exact ⟨b, x5, x6⟩
      have hkat : kindAt L.procs p.met = (L.procs[b]).2.kind := by unfold kindAt; rw [hb]; simp [hbl]
      have hoat : ovalAt L.procs p.met = (L.procs[b]).2.oval := by unfold ovalAt; rw [hb]; simp [hbl]
      have eM : ∃ y, (L.setP i (incPr p)).procs[(incPr p).met.toNat]? = some y ∧ y.2.kind = (L.procs[b]).2.kind ∧ y.2.oval = (L.procs[b]).2.oval := by
        have em : (incPr p).met.toNat = b := by show p.met.toNat = b; omega
        rw [em]
        by_cases eb : b = i
        · subst eb
          refine ⟨((L.procs.getD b (0, incPr p)).1, incPr p), ?_, ?_, ?_⟩
          · show (L.procs.set b _)[b]? = _
            rw [List.getElem?_set_self hi]
          · show p.kind = _
            rw [hep]
          · show p.oval = _
            rw [hep]
        · refine ⟨L.procs[b], ?_, rfl, rfl⟩
          show (L.procs.set i _)[b]? = _
          rw [List.getElem?_set_ne (Ne.symm eb), List.getElem?_eq_getElem hbl]
      obtain ⟨y, ey, ky, oy⟩ := eM
      rw [ey]
      simp only
      rw [← ky] at hkat
      rw [← oy] at hoat
      have k12 : p.kind = 1 ∨ p.kind = 2 := by
        have : p.kind < 3 := Int.not_le.1 fun x => by have := hkp.chg x; omega
        omega
      unfold settledPr
      by_cases e : p.kind = y.2.kind
      · rw [if_pos (show ({ incPr p with met := -1 } : Pr).kind = y.2.kind from e)]
        refine ⟨rfl, rfl, fun x => ?_⟩
        rw [vP_lo (by show ¬ ((0 : Int) = 6 ∨ (0 : Int) = 7); decide) (by show (0 : Int) < 19; decide)]
        rcases k12 with k | k
        · rw [vP_met1 (p := p) (Or.inr e7) (by omega) k, if_neg (fun z => z.2 (by omega))]
        · rw [vP_met2 (p := p) (Or.inr e7) (by omega) k, if_neg (fun z => z.1 (by omega))]
      · rw [if_neg (show ¬ ({ incPr p with met := -1 } : Pr).kind = y.2.kind from e)]
        rcases k12 with k | k
        · rw [if_neg (show ¬ ({ incPr p with met := -1 } : Pr).kind = 2 by show ¬ p.kind = 2; omega)]
          refine ⟨rfl, rfl, fun x => ?_⟩
          rw [vP_met1 (p := p) (Or.inr e7) (by omega) k, vP_end1 (by show (19 : Int) ≤ 19; decide) (by show p.kind = 1; exact k)]
          show (if p.oval = x then (1 : Int) else 0) = _
          by_cases z : p.oval = x
          · rw [if_pos z, if_pos ⟨z, by omega⟩]
          · rw [if_neg z, if_neg (fun u => z u.1)]
        · rw [if_pos (show ({ incPr p with met := -1 } : Pr).kind = 2 by show p.kind = 2; exact k)]
          refine ⟨rfl, rfl, fun x => ?_⟩
          rw [vP_met2 (p := p) (Or.inr e7) (by omega) k, vP_end2 (by show (19 : Int) ≤ 19; decide) (by show p.kind = 2; exact k), hoat]
          show (if y.2.oval = x then (-1 : Int) else 0) = _
          by_cases z : y.2.oval = x
          · rw [if_pos z, if_pos ⟨by omega, z⟩]
          · rw [if_neg z, if_neg (fun u => z u.2)]
    rw [if_neg e7]
    by_cases e15 : p.phase = 15
    · have hk3 : 3 ≤ p.kind := Int.not_lt.1 fun x => hkp.walk x (by omega)
      rw [if_pos e15]
      have : (shutCh (L.setP i (incPr p)) v (incPr p)).kind = p.kind ∧ (shutCh (L.setP i (incPr p)) v (incPr p)).oval = p.oval := by unfold shutCh; split <;> exact ⟨rfl, rfl⟩
      exact ⟨this.1, this.2, ch _ this.1 hk3⟩
    rw [if_neg e15]
    by_cases e16 : p.phase = 16
    · have hk3 : 3 ≤ p.kind := Int.not_lt.1 fun x => hkp.walk x (by omega)
      rw [if_pos e16]
      have : (drainCh (L.setP i (incPr p)) v (incPr p)).kind = p.kind ∧ (drainCh (L.setP i (incPr p)) v (incPr p)).oval = p.oval := by unfold drainCh; split; exact ⟨rfl, rfl⟩; split <;> exact ⟨rfl, rfl⟩
      exact ⟨this.1, this.2, ch _ this.1 hk3⟩
    rw [if_neg e16]
    by_cases e18 : p.phase = 18
    · have hk3 : 3 ≤ p.kind := Int.not_lt.1 fun x => hkp.walk x (by omega)
      rw [if_pos e18]
      exact ⟨rfl, rfl, ch _ rfl hk3⟩
    rw [if_neg e18]
    by_cases e19 : p.phase = 19
    · rw [if_pos e19]
      refine ⟨rfl, rfl, fun x => ?_⟩
      have hup : 19 ≤ (upPr (incPr p)).phase := by
        unfold upPr
        simp only
        split
        · decide
        · exact Int.le_refl _
      have k12 : p.kind = 1 ∨ p.kind = 2 ∨ 3 ≤ p.kind := by omega
      rcases k12 with k | k | k
      · rw [vP_end1 (p := p) (by omega) k, vP_end1 hup k]
        rfl
      · rw [vP_end2 (p := p) (by omega) k, vP_end2 hup k]
        rfl
      · exact ch (upPr (incPr p)) rfl k x
    omega
  exact stay _ _ hmv.1 hmv.2.1 hmv.2.2
end

end Go.Proofs.Ytjnmpejcegmkhab

namespace Go.Proofs.Ytjnmpejcegmkhab
open Go.RowKit

structure VOk (L : Lay) : Prop where
  kd : KdOk L
  val : ValOk L

theorem VOk.step {c : Conf} {L : Lay} {P : PLay} (h : CRel c L P) (hc : c.kind = 1) (x : VOk L) {i : Nat} (hi : i < L.procs.length) (hl : (L.procs[i]).2.phase ≠ 20) (draw : Int) : VOk (lstep L i draw) := by
  obtain ⟨v, n, hh⟩ := h.rel.here hi hl
  exact ⟨hh.kd h.ck hc draw x.kd, hh.val h.ck hc draw x.kd x.val⟩

theorem ovalAt_app {ps : Ps} {x : Nat × Pr} {m : Int} (h : m.toNat < ps.length) : ovalAt (ps ++ [x]) m = ovalAt ps m := by
  unfold ovalAt
  rw [List.getElem?_append_left h]

theorem VOk.spawn {c : Conf} {L : Lay} {P : PLay} (h : CRel c L P) (x : VOk L) (o : Op3) : VOk { L with procs := L.procs ++ [(0, newPr o)] } := by
  have hph : (newPr o).phase = 0 ∨ (newPr o).phase = 15 := by
    unfold newPr
    simp only
    split
    · exact Or.inr rfl
    · exact Or.inl rfl
  refine ⟨fun i hi => ?_, fun y => ?_⟩
  · have hi0 : i < (L.procs ++ [(0, newPr o)]).length := hi
    show (((L.procs ++ [(0, newPr o)])[i]).2.phase = 13 → _) ∧ (((L.procs ++ [(0, newPr o)])[i]).2.phase = 14 → _)
    by_cases e : i < L.procs.length
    · rw [List.getElem_append_left e]
      exact x.kd i e
    · simp only [List.length_append, List.length_cons, List.length_nil] at hi0
      have e' : i = L.procs.length := by omega
      subst e'
      simp only [List.getElem_concat_length]
      exact ⟨fun a => by omega, fun a => by omega⟩
  · have hx := x.val y
    show cntS y L = sumP (vP y (L.procs ++ [(0, newPr o)])) (L.procs ++ [(0, newPr o)])
    rw [sumP_one]
    have h0 : vP y (L.procs ++ [(0, newPr o)]) (newPr o) = 0 := vP_lo (by omega) (by omega)
    rw [h0, hx, Int.add_zero]
    refine sumP_congr _ _ _ fun i hi => ?_
    by_cases hm : metB (L.procs[i]).2 = true
    · have hm' := hm
      unfold metB at hm'
      simp only [Bool.and_eq_true, Bool.or_eq_true, decide_eq_true_eq] at hm'
      have hlt : (L.procs[i]).2.met.toNat < L.procs.length := by
        obtain ⟨v, n, hh⟩ := h.rel.here hi (by omega)
        obtain ⟨k, hk, hs⟩ := hh.slotk
        obtain ⟨_, hx⟩ := hh.mine hm'.1 hk hs (hh.inner (by omega) (by omega))
        rcases hx with ⟨_, _, e⟩ | ⟨_, b, _, e, hb, _⟩
        · omega
        · omega
      unfold vP
      rw [kindAt_app hlt, ovalAt_app hlt]
    · unfold vP
      simp [hm]

theorem VOk.new (c : Conf) : VOk (newLay c) := by
  refine ⟨fun i hi => absurd hi (Nat.not_lt_zero _), fun x => ?_⟩
  show cntS x (newLay c) = 0
  unfold cntS
  refine sumN_zero _ _ fun w hw => ?_
  by_cases h0 : w = 0
  · subst h0
    rw [(newLay_new c).hist0]
    simp [cntH, formH]
  · rw [(newLay_new c).hist w (by omega) hw]
    unfold newHist
    split
    · simp [cntH, formH]
    · split
      · simp [cntH, formH, itemsH, itemsTo, putsH, fromH, manyH]
      · simp [cntH, formH]

end Go.Proofs.Ytjnmpejcegmkhab

namespace Go.Proofs.Ytjnmpejcegmkhab
open Go.RowKit

/-- Somebody stands at u in the phase k with the ticket t. -/
def holdK (k : Int) (l : List PP) (u t : Nat) : Prop := ∃ j, ∃ hj : j < l.length, (l[j]).phase = k ∧ (l[j]).node = (u : Int) ∧ (l[j]).ticket = (t : Int)

theorem set_get {l : List PP} {i j : Nat} {x : PP} (hj : j < (l.set i x).length) : (j = i ∧ (l.set i x)[j] = x) ∨ (j ≠ i ∧ ∃ hj0 : j < l.length, (l.set i x)[j] = l[j]) := by
  have hj0 : j < l.length := by simpa using hj
  by_cases e : j = i
  · subst e
    exact Or.inl ⟨rfl, List.getElem_set_self _⟩
  · exact Or.inr ⟨e, hj0, List.getElem_set_ne (Ne.symm e) _⟩

theorem holdK.set {k : Int} {l : List PP} {u t i : Nat} {x : PP} (h : holdK k l u t) (hi : i < l.length) (hne : ¬ ((l[i]).phase = k ∧ (l[i]).node = (u : Int) ∧ (l[i]).ticket = (t : Int))) : holdK k (l.set i x) u t := by
  obtain ⟨j, hj, h1, h2, h3⟩ := h
  have e : j ≠ i := fun e => by subst e; exact hne ⟨h1, h2, h3⟩
  have hj' : j < (l.set i x).length := by simpa using hj
  refine ⟨j, hj', ?_⟩
  rw [List.getElem_set_ne (Ne.symm e)]
  exact ⟨h1, h2, h3⟩
theorem holdK.new {k : Int} {l : List PP} {u t i : Nat} {x : PP} (hi : i < l.length) (h : x.phase = k ∧ x.node = (u : Int) ∧ x.ticket = (t : Int)) : holdK k (l.set i x) u t := by
  refine ⟨i, by simpa using hi, ?_⟩
  rw [List.getElem_set_self]
  exact h

structure TkAt (l : Hist) (ps : List PP) (u : Nat) : Prop where
  put : ∀ t : Nat, (t : Int) < putsH l → itemH l t ≠ none ∨ takenH l t = true ∨ holdK 13 ps u t
  get : ∀ t : Nat, t < manyH 7 (-1) l → takenH l t = true ∨ holdK 14 ps u t
  tk : ∀ t : Nat, takenH l t = true → t < manyH 7 (-1) l

structure TkOk (L : Lay) : Prop where
  at' : ∀ u, 1 ≤ u → u < L.past.length → formH (L.hist u) = 2 → TkAt (L.hist u) (toPPs L.procs) u
  g14 : ∀ j, (hj : j < (toPPs L.procs).length) → ((toPPs L.procs)[j]).phase = 14 → ((toPPs L.procs)[j]).ticket < manyH 7 (-1) (L.hist ((toPPs L.procs)[j]).node.toNat) ∧ takenH (L.hist ((toPPs L.procs)[j]).node.toNat) ((toPPs L.procs)[j]).ticket = false
  gun : ∀ j k, (hj : j < (toPPs L.procs).length) → (hk : k < (toPPs L.procs).length) → ((toPPs L.procs)[j]).phase = 14 → ((toPPs L.procs)[k]).phase = 14 → ((toPPs L.procs)[j]).node = ((toPPs L.procs)[k]).node → ((toPPs L.procs)[j]).ticket = ((toPPs L.procs)[k]).ticket → j = k

/-- Alike for the tickets. -/
structure SameTk (l l' : Hist) : Prop where
  form : formH l' = formH l
  puts : putsH l' = putsH l
  item : ∀ t, itemH l' t = itemH l t
  taken : ∀ t, takenH l' t = takenH l t
  gets : manyH 7 (-1) l' = manyH 7 (-1) l
theorem SameTk.refl (l : Hist) : SameTk l l := ⟨rfl, rfl, fun _ => rfl, fun _ => rfl, rfl⟩
theorem sameTk_ev (l : Hist) (ev : Ev) (iv : Value) (h : ev.what = 4 ∨ ev.what = 5) : SameTk l ((ev, iv) :: l) := by
  have h3 : 3 < ev.what := by omega
  have n3 : ¬ ev.what ≤ 3 := by omega
  have n6 : ev.what ≠ 6 := by omega
  have n7 : ev.what ≠ 7 := by omega
  have n8 : ev.what ≠ 8 := by omega
  have n9 : ev.what ≠ 9 := by omega
  have ht : ∀ t, takenH ((ev, iv) :: l) t = takenH l t := by
    intro t
    unfold takenH
    simp [manyH, h3, n9]
  refine ⟨by simp [formH, n3], by unfold putsH; simp [fromH, manyH, n3, h3, n6], fun t => ?_, ht, by simp [manyH, h3, n7]⟩
  unfold itemH
  rw [ht]
  simp [fromH, laidH, n3, h3, n8]

section
variable {c : Conf} {L : Lay} {P : PLay} {i v : Nat} {p : Pr} {n : PN}

theorem hap_same (q p' : Pr) (ev : Ev) (hv : v < L.past.length) (h : ev.what = 4 ∨ ev.what = 5) (u : Nat) : SameTk (L.hist u) ((((L.setP i q).hap v nilV ev nilV).setP i p').hist u) := by
  have e : (((L.setP i q).hap v nilV ev nilV).setP i p').hist u = ((L.setP i q).hap v nilV ev nilV).hist u := rfl
  rw [e, hist_hap (L.setP i q) v u nilV ev nilV hv]
  by_cases eu : u = v
  · subst eu
    rw [if_pos rfl]
    exact sameTk_ev _ _ _ h
  · rw [if_neg eu]
    exact SameTk.refl _

theorem Here.sameTk (h : Here c L P i v p n) (draw : Int) (hne : p.phase ≠ 12 ∧ p.phase ≠ 13 ∧ p.phase ≠ 14 ∧ p.phase ≠ 17) (u : Nat) : SameTk (L.hist u) ((lstep L i draw).hist u) := by
  have hv := h.vN
  rw [h.lat draw, h.lget]
  simp only
  by_cases e8 : p.phase = 8
  · rw [if_pos e8]
    obtain ⟨j, hm, hj, hji⟩ := h.q.mind e8
    have ej : p.mind.toNat = j := by omega
    rw [ej, List.getElem?_eq_getElem hj]
    simp only
    split <;> exact SameTk.refl _
  rw [if_neg e8]
  by_cases e9 : p.phase = 9
  · rw [if_pos e9]
    exact hap_same _ _ _ hv (Or.inr rfl) u
  rw [if_neg e9]
  by_cases e10 : p.phase = 10
  · rw [if_pos e10]
    exact hap_same _ _ _ hv (Or.inr rfl) u
  rw [if_neg e10]
  by_cases e11 : p.phase = 11
  · rw [if_pos e11]
    exact hap_same _ _ _ hv (Or.inl rfl) u
  rw [if_neg e11, if_neg hne.1, if_neg hne.2.1, if_neg hne.2.2.1, if_neg hne.2.2.2]
  exact SameTk.refl _

/-- Who takes no ticket, and has none, changes nothing. -/
theorem tk_else {L' : Lay} (ht : TkOk L) (hil : i < (toPPs L.procs).length) {q' : PP} (hp0 : ((toPPs L.procs)[i]).phase ≠ 13 ∧ ((toPPs L.procs)[i]).phase ≠ 14) (np : q'.phase ≠ 14) (hpr : toPPs L'.procs = (toPPs L.procs).set i q') (hl : L'.past.length = L.past.length) (hsm : ∀ u, SameTk (L.hist u) (L'.hist u)) : TkOk L' := by
  refine ⟨fun u h1 hu hf => ?_, fun j hj h14 => ?_, fun j k hj hk a b => ?_⟩
  · have s := hsm u
    have a := ht.at' u h1 (by omega) (by rw [← s.form]; exact hf)
    rw [hpr]
    refine ⟨fun t htp => ?_, fun t htg => ?_, fun t htk => ?_⟩
    · rw [s.item, s.taken]
      rcases a.put t (by rw [← s.puts]; exact htp) with x | x | x
      · exact Or.inl x
      · exact Or.inr (Or.inl x)
      · exact Or.inr (Or.inr (x.set hil (fun z => hp0.1 z.1)))
    · rw [s.taken]
      rcases a.get t (by rw [← s.gets]; exact htg) with x | x
      · exact Or.inl x
      · exact Or.inr (x.set hil (fun z => hp0.2 z.1))
    · rw [s.gets]
      exact a.tk t (by rw [← s.taken]; exact htk)
  · have key : ∀ (l : List PP) (hj : j < l.length), l = (toPPs L.procs).set i q' → (l[j]).phase = 14 → (l[j]).ticket < manyH 7 (-1) (L'.hist (l[j]).node.toNat) ∧ takenH (L'.hist (l[j]).node.toNat) (l[j]).ticket = false := by
      intro l hj e h14
      subst e
      rcases set_get hj with ⟨_, e⟩ | ⟨_, hj0, e⟩
      · rw [e] at h14
        exact absurd h14 np
      · rw [e] at h14 ⊢
        have := ht.g14 j hj0 h14
        rw [(hsm _).gets, (hsm _).taken]
        exact this
    exact key _ hj hpr h14
  · have key : ∀ (l : List PP) (hj : j < l.length) (hk : k < l.length), l = (toPPs L.procs).set i q' → (l[j]).phase = 14 → (l[k]).phase = 14 → (l[j]).node = (l[k]).node → (l[j]).ticket = (l[k]).ticket → j = k := by
      intro l hj hk e a b d f
      subst e
      rcases set_get hj with ⟨_, e⟩ | ⟨_, hj0, e⟩
      · rw [e] at a
        exact absurd a np
      · rcases set_get hk with ⟨_, e'⟩ | ⟨_, hk0, e'⟩
        · rw [e'] at b
          exact absurd b np
        · rw [e] at a d f
          rw [e'] at b d f
          exact ht.gun j k hj0 hk0 a b d f
    exact key _ hj hk hpr a b

theorem Here.tkA (h : Here c L P i v p n) (ck : CK c L P) (draw : Int) (hne : p.phase ≠ 12 ∧ p.phase ≠ 13 ∧ p.phase ≠ 14 ∧ p.phase ≠ 17) (ht : TkOk L) : TkOk (lstep L i draw) := by
  obtain ⟨p', hw⟩ := h.went ck draw
  have hi := h.hi
  have hpm := hw.pm
  have hil : i < (toPPs L.procs).length := by rw [toPPs_len]; exact hi
  have hpi : (toPPs L.procs)[i] = toPP p := by rw [toPPs_at _ _ hi, h.ep]
  have np : p'.phase ≠ 14 := by
    generalize p.phase = a at *
    generalize p'.phase = b at *
    generalize p'.node = nd at *
    cases hpm <;> omega
  exact tk_else ht hil (by rw [hpi]; exact ⟨hne.2.1, hne.2.2.1⟩) (q' := toPP p') np hw.procs hw.past (h.sameTk draw hne)
end

end Go.Proofs.Ytjnmpejcegmkhab
