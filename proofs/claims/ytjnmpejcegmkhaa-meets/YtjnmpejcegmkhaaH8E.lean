/- A step of a hand, and what it may change. No statement of the seat is proved here. -/
import Derived.Test.YtjnmpejcegmkhaaH4
namespace Go.Proofs.Ytjnmpejcegmkhaa
open Go.RowKit

abbrev KS : List TypeId := [78, 119, 135, 4]

theorem hstep2_c {w : World} {B hb : Nat} {c : Conf} {S : Gh} {P : PLay} (h : KSt w B hb c S P) (p draw : Int) :
    Calls Try.prog 43 #[.pointer (some ⟨hb, 0, none⟩), I p, I draw] w fun e w' => e = .returned (.bool true) ∧ (∃ P', KSt w' B hb c (gstep S p draw) P') ∧ ChgT B KS w w' := by
  have hpl := h.rel.plen
  have same : gstep S p draw = S → (Calls Try.prog 43 #[.pointer (some ⟨hb, 0, none⟩), I p, I draw] w fun e w' => e = .returned (.bool true) ∧ Below w.heap.size w w') → Calls Try.prog 43 #[.pointer (some ⟨hb, 0, none⟩), I p, I draw] w fun e w' => e = .returned (.bool true) ∧ (∃ P', KSt w' B hb c (gstep S p draw) P') ∧ ChgT B KS w w' := by
    intro eg hc
    rw [eg]
    refine hc.mono ?_
    rintro e w' ⟨rfl, hb'⟩
    exact ⟨rfl, ⟨P, h.below hb'⟩, ChgT.of_below hb'⟩
  by_cases hin : 0 ≤ p ∧ p < S.L.procs.length
  · obtain ⟨i, rfl⟩ := Int.eq_ofNat_of_zero_le hin.1
    have hi : i < S.L.procs.length := by omega
    have hiP : i < P.procs.length := by omega
    have htd := h.told i hi
    by_cases h20 : (S.L.procs[i]).2.phase = 20
    · refine same ?_ (kstep_done h.rep i hiP (by rw [htd]; exact h20) draw fun W hW => ?_)
      · unfold gstep
        rw [if_neg]
        rintro ⟨_, _, x⟩
        rw [Int.toNat_natCast, phaseAt_eq S.L i hi] at x
        exact x h20
      · have hv0 : 0 < P.nodes.length := by rw [h.rel.rel.plen]; omega
        obtain ⟨g, hf⟩ := PF.start hW hv0 hiP
        refine pStep_done hf ?_ draw
        have : P.procs[i] = toPP (S.L.procs[i]).2 := by simp [h.rel.rel.procs]
        rw [this]
        exact h20
    · obtain ⟨v, n, hh⟩ := h.rel.rel.here hi h20
      obtain ⟨p', hwt⟩ := hh.went h.rel.ck draw
      obtain ⟨ph, hps, _, _⟩ := h.rel.next (B := B) hi h20 draw
      have hlen' := went_len hwt
      have hph := hh.q.phase
      have eg : gstep S i draw = ⟨lstep S.L i draw, S.ops, S.went.set i true⟩ := by
        unfold gstep
        rw [if_pos ⟨hin.1, hin.2, by rw [Int.toNat_natCast, phaseAt_eq S.L i hi]; exact h20⟩, Int.toNat_natCast]
      have hF : ∀ P' : PLay, (P'.tb = P.tb ∧ CRel c (lstep S.L i draw) P') → P'.tb = P.tb ∧ P'.c = P.c ∧ P'.procs.length = P.procs.length ∧ (P'.procs.getD i zeroPP).phase = p'.phase := by
        rintro P' ⟨a, b⟩
        have hl' := b.plen
        refine ⟨a, by rw [b.rel.cP, h.rel.rel.cP], by omega, ?_⟩
        have e : P'.procs.getD i zeroPP = toPP ((lstep S.L i draw).procs[i]'(by omega)).2 := by
          rw [b.rel.procs, List.getD_eq_getElem?_getD, List.getElem?_map, List.getElem?_eq_getElem (by omega)]
          rfl
        rw [e, went_self hwt (by omega)]
        rfl
      have hsr := fun W (hW : PRep W B P) (hBW : B ≤ W.heap.size) => pStep_ret (B := B) hiP (by rw [show P.procs[i] = toPP (S.L.procs[i]).2 by simp [h.rel.rel.procs]]; exact h20) draw (F := fun P' => P'.tb = P.tb ∧ CRel c (lstep S.L i draw) P') (fun P' hP' => ⟨(hF P' hP').1, (hF P' hP').2.2.1⟩) hps.1 hW hBW
      rw [eg]
      refine (kstep_run h.rep h.hB i hiP draw p'.phase (S.L.procs[i]).2.phase (by rw [htd]) hph.1 (by omega) hwt.pm.behind (fun P' => P'.tb = P.tb ∧ CRel c (lstep S.L i draw) P') ?_ ?_).mono ?_
      · intro P' hP'
        obtain ⟨a, b, d, e⟩ := hF P' hP'
        refine ⟨a, b, d, ?_⟩
        unfold toldP
        rw [if_pos ⟨by omega, by omega⟩, Int.toNat_natCast]
        exact e
      · intro W hW hBW
        refine (hsr W hW hBW).mono ?_
        rintro x w' ⟨⟨P', rfl, hP', hr⟩, hc⟩
        exact ⟨by rw [(hF P' hP').2.2.2], ⟨P', hP', hr⟩, hc⟩
      · rintro e w' ⟨rfl, ⟨P', hP', hr⟩, hc⟩
        refine ⟨rfl, ⟨P', hr, hP'.2, Nat.le_trans h.hB hc.size, ?_⟩, hc.mono (Nat.le_refl _) (by simp)⟩
        refine ⟨by simp only [List.length_set]; rw [hlen']; exact h.of.wlen, by show S.ops = opsL (lstep S.L i draw); rw [opsL_went hwt hi rfl]; exact h.of.op, slot_went hwt hi rfl h.of.slot, fun j hj hj' hw => ?_⟩
        simp only at hj hj' hw ⊢
        by_cases e : j = i
        · subst e
          rw [List.getElem_set_self] at hw
          exact absurd hw (by simp)
        · rw [List.getElem_set_ne (Ne.symm e)] at hw
          have hjL : j < S.L.procs.length := by omega
          obtain ⟨x1, x2, x3, x4, x5, x6, _⟩ := pp_told (went_other hwt j hjL hj e)
          have := h.of.new j hjL (by have := h.of.wlen; omega) hw
          rw [x1, x2, x3, x4, x5, x6]
          exact this
  · refine same ?_ (kstep_none h.rep p (by omega) draw)
    unfold gstep
    rw [if_neg]
    rintro ⟨x, y, _⟩
    exact hin ⟨x, y⟩

end Go.Proofs.Ytjnmpejcegmkhaa
