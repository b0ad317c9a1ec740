/- One Step of the program and of the document, side by side, with Folds and Unfolds about. One Step of the program and of the document, side by side: at the slots (P7). One Step of the program and of the document, side by side: at a leaf (P8), and every phase. The relation holds of new trees, and goes on behind a Spawn. The relation behind a Spawn; Spawn and Step of both sides as the statements' own step calls them. One Step of the program and of the document, side by side: at a target (P9), and every phase. The relation of both trees, with Folds and Unfolds about, holds of new trees and goes on behind a Spawn; Spawn and Step of both sides as the statements' own step calls them. No statement of the seat is proved here. -/
import Derived.Test.YtjnmpejcegmkhaaGreatDoorEraL
import Derived.Test.YtjnmpejcegmkhaaGreatDoorCInv
namespace Go.Proofs.YtjnmpejcegmkhaaGreatDoor
open Go.RowKit

/-- What a step of the program does, by itself and as Step. -/
abbrev ProgStep (B : Nat) (P : PLay) (i : Nat) (draw ph : Int) (F : PLay → Prop) : Prop :=
  (∀ W, PRep W B P → B ≤ W.heap.size → Calls Tryz.prog 42 #[.pointer (some ⟨P.tb, 0, none⟩), I i, I draw] W fun e w' => e = .returned (.tuple #[]) ∧ (∃ P', F P' ∧ PRep w' B P') ∧ ChgT B [61, 96, 148] W w') ∧
  (∀ W, PRep W B P → B ≤ W.heap.size → Calls Tryz.prog 22 #[.pointer (some ⟨P.tb, 0, none⟩), I i, I draw] W fun e w' => e = .returned (.tuple #[I ph, I 0]) ∧ (∃ P', F P' ∧ PRep w' B P') ∧ ChgT B [61, 96, 148] W w') ∧
  (∀ P', F P' → (P'.procs.getD i zeroPP).phase = ph)
abbrev RefStep (B : Nat) (L : Lay) (i : Nat) (draw ph : Int) (F : Lay → Prop) : Prop :=
  ∀ W, RefRep W B L → B ≤ W.heap.size → Calls Tryz.prog 36 #[.pointer (some ⟨L.tb, 0, none⟩), I i, I draw] W fun e w' => e = .returned (.tuple #[I ph, I 0]) ∧ (∃ L', F L' ∧ RefRep w' B L') ∧ ChgT B [91, 69, 109] W w'

/-- Both step, answer the same phase, and go on alike. -/
def Both (c : Conf) (B : Nat) (L : Lay) (P : PLay) (i : Nat) (draw : Int) : Prop :=
  ∃ (ph : Int) (FP : PLay → Prop) (FL : Lay → Prop), (∀ L' P', FL L' → FP P' → CRel c L' P') ∧ (∀ P', FP P' → P'.tb = P.tb) ∧ (∀ L', FL L' → L'.tb = L.tb) ∧ ((∃ P', FP P') ∧ (∃ L', FL L') ∧ ∀ L', FL L' → Same (lstep L i draw) L') ∧ ProgStep B P i draw ph FP ∧ RefStep B L i draw ph FL

/-- The same, where what comes is told by the place of one row. -/
def BothV (c : Conf) (B : Nat) (L : Lay) (P : PLay) (i : Nat) (draw : Int) : Prop :=
  ∃ (ph : Int) (FP : Value → PLay) (FL : Value → Lay), (∀ x y, CRel c (FL x) (FP y)) ∧ (∀ y, (FP y).tb = P.tb) ∧ (∀ x, (FL x).tb = L.tb) ∧ (∀ x, Same (lstep L i draw) (FL x)) ∧
    ProgStep B P i draw ph (fun P' => ∃ y, P' = FP y) ∧
    (∀ W, RefRep W B L → B ≤ W.heap.size → Calls Tryz.prog 36 #[.pointer (some ⟨L.tb, 0, none⟩), I i, I draw] W fun e w' => e = .returned (.tuple #[I ph, I 0]) ∧ (∃ x, RefRep w' B (FL x)) ∧ ChgT B [91, 69, 109] W w')

theorem BothV.both {c : Conf} {B : Nat} {L : Lay} {P : PLay} {i : Nat} {draw : Int} (h : BothV c B L P i draw) : Both c B L P i draw := by
  obtain ⟨ph, FP, FL, h1, h2, h3, h6, h4, h5⟩ := h
  refine ⟨ph, fun P' => ∃ y, P' = FP y, fun L' => ∃ x, L' = FL x, ?_, ?_, ?_, ⟨⟨_, nilV, rfl⟩, ⟨_, nilV, rfl⟩, fun L' ⟨x, hx⟩ => by rw [hx]; exact h6 x⟩, h4, fun W hr hB => (h5 W hr hB).mono ?_⟩
  · rintro L' P' ⟨x, rfl⟩ ⟨y, rfl⟩; exact h1 x y
  · rintro P' ⟨y, rfl⟩; exact h2 y
  · rintro L' ⟨x, rfl⟩; exact h3 x
  · rintro e w' ⟨a, ⟨x, b⟩, d⟩; exact ⟨a, ⟨_, ⟨x, rfl⟩, b⟩, d⟩

section
variable {c : Conf} {B : Nat} {L : Lay} {P : PLay} {i v : Nat} {p : Pr} {n : PN}

theorem Here.pf (h : Here c L P i v p n) {W : World} (hr : PRep W B P) : ∃ g, PF W B P v i g W n (toPP p) := by
  have hv : v < P.nodes.length := by have := h.v32; have := h.rel.plen; omega
  have hi : i < P.procs.length := by rw [h.rel.procs, List.length_map]; exact h.hi
  obtain ⟨g, hf⟩ := PF.start hr hv hi
  have e1 : P.nodes[v] = n := by rw [← h.en]; simp [List.getD_eq_getElem?_getD, List.getElem?_eq_getElem hv]
  have e2 : P.procs[i] = toPP p := by
    have : P.procs[i] = toPP (L.procs[i]'h.hi).2 := by simp [h.rel.procs]
    rw [this, h.ep]
  rw [e1, e2] at hf
  exact ⟨g, hf⟩

/-- The program's side. -/
theorem Here.prog (h : Here c L P i v p n) (draw : Int) (FN : Value → PN) (Q : PP)
    (hc : ∀ W g, PF W B P v i g W n (toPP p) → B ≤ W.heap.size → ∀ W', Below W.heap.size W W' → PF W B P v i g W' n (toPP p) → B ≤ W'.heap.size → Calls Tryz.prog 42 #[.pointer (some ⟨P.tb, 0, none⟩), I i, I draw] W' fun e w' => e = .returned (.tuple #[]) ∧ ∃ y, PF W B P v i g w' (FN y) Q) :
    ProgStep B P i draw Q.phase (fun P' => ∃ y, P' = P.foc v (FN y) i Q) := by
  refine ⟨fun W hr hB => ?_, fun W hr hB => ?_, ?_⟩
  · obtain ⟨g, hf⟩ := h.pf hr
    refine (hc W g hf hB W (Below.refl _ _) hf hB).mono ?_
    rintro e w' ⟨e0, y, hy⟩
    exact ⟨e0, ⟨_, ⟨y, rfl⟩, hy.rep⟩, hy.chg⟩
  · obtain ⟨g, hf⟩ := h.pf hr
    refine (pStep_ok hf (by show p.phase ≠ 20; exact h.live) draw (R := fun n' q' => (∃ y, n' = FN y) ∧ q' = Q) (fun W' hb => ?_)).mono ?_
    · refine (hc W g hf hB W' hb (hf.below hb) (Nat.le_trans hB hb.size)).mono ?_
      rintro e w' ⟨e0, y, hy⟩
      exact ⟨e0, _, _, hy, ⟨y, rfl⟩, rfl⟩
    · rintro e w' ⟨n', q', e0, hy, ⟨y, rfl⟩, rfl⟩
      exact ⟨e0, ⟨_, ⟨y, rfl⟩, hy.rep⟩, hy.chg⟩
  · rintro _ ⟨y, rfl⟩
    have hi : i < P.procs.length := by rw [h.rel.procs, List.length_map]; exact h.hi
    simp [List.getD_eq_getElem?_getD, hi]

theorem phase_at {W : World} {X : Lay} {p' : Pr} {pb : Nat} (hr : RefRep W B (X.setP i p')) (hi : i < X.procs.length) (hpb : (X.procs[i]).1 = pb) : W.cell? ⟨pb, 3, none⟩ = some (I p'.phase) := by
  have hi' : i < (X.setP i p').procs.length := by simpa using hi
  have := (hr.pblk i hi').1
  simp only [List.getElem_set_self] at this
  have e : (X.procs.getD i (0, p')).1 = pb := by simp [List.getD_eq_getElem?_getD, List.getElem?_eq_getElem hi, hpb]
  rw [e] at this
  rw [(nb_facts this).1 3]
  rfl

/-- The document's side, behind the count of the step. -/
theorem Here.ref (h : Here c L P i v p n) {W : World} (hr : RefRep W B L) (hB : B ≤ W.heap.size) : ∃ pb, ProcAt W L i pb p ∧ RefRep (W.setCell ⟨pb, 12, none⟩ (I (wrap64 (p.steps + 1)))) B (L.setP i (incPr p)) ∧ ProcAt (W.setCell ⟨pb, 12, none⟩ (I (wrap64 (p.steps + 1)))) (L.setP i (incPr p)) i pb (incPr p) ∧ ChgT B [109] W (W.setCell ⟨pb, 12, none⟩ (I (wrap64 (p.steps + 1)))) ∧ B ≤ (W.setCell ⟨pb, 12, none⟩ (I (wrap64 (p.steps + 1)))).heap.size ∧ (L.procs[i]'h.hi).1 = pb := by
  have hp := hr.procAt h.hi
  rw [h.ep] at hp
  obtain ⟨a, b, d⟩ := hp.inc hr
  exact ⟨_, hp, a, b, d, by simpa [World.setCell] using hB, rfl⟩

theorem inc_pb (hi : i < L.procs.length) (hi' : i < (L.setP i (incPr p)).procs.length) : ((L.setP i (incPr p)).procs[i]).1 = (L.procs[i]).1 := by
  simp [List.getD_eq_getElem?_getD, List.getElem?_eq_getElem hi]

/-- What a call writes of the process alone. -/
theorem putb_end {W W1 w' : World} {pb : Nat} {p' : Pr} (hi : i < L.procs.length) (_hpb : (L.procs[i]).1 = pb) (h1 : RefRep W1 B (L.setP i (incPr p))) (hp1 : ProcAt W1 (L.setP i (incPr p)) i pb (incPr p)) (hc : ChgT B [109] W W1) (hw : PutB W1 w' pb (prCells p') 109) :
    ∃ ph, w'.cell? ⟨pb, 3, none⟩ = some (I ph) ∧ ph = p'.phase ∧ (∃ _x : Value, RefRep w' B ((L.setP i (incPr p)).setP i p')) ∧ ChgT B [91, 69, 109] W w' := by
  obtain ⟨a, b⟩ := hp1.put h1 hw
  refine ⟨p'.phase, by rw [(nb_facts hw.blk).1 3]; rfl, rfl, ⟨.slice none 0 0, a⟩, (hc.mono (Nat.le_refl _) (by simp)).trans (b.mono (Nat.le_refl _) (by simp))⟩

theorem Here.lsm (h : Here c L P i v p n) (draw : Int) (h8 : p.phase ≠ 8 ∧ p.phase ≠ 9 ∧ p.phase ≠ 10 ∧ p.phase ≠ 11 ∧ p.phase ≠ 12 ∧ p.phase ≠ 13 ∧ p.phase ≠ 14 ∧ p.phase ≠ 17) {p' : Pr} (e : lmove (L.setP i (incPr p)) v (incPr p) draw = p') : Same (lstep L i draw) ((L.setP i (incPr p)).setP i p') := by
  have e1 : lstep L i draw = (L.setP i (incPr p)).setP i (lmove (L.setP i (incPr p)) v (incPr p) draw) := by
    unfold lstep
    rw [List.getElem?_eq_getElem h.hi]
    simp only [h.ep]
    obtain ⟨a1, a2, a3, a4, a5, a6, a7, a8⟩ := h8
    rw [if_neg a1, if_neg a2, if_neg a3, if_neg a4, if_neg a5, if_neg a6, if_neg a7, if_neg a8, h.toNat]
  rw [e1, e]
  exact Same.refl _
theorem Here.lsm1 (h : Here c L P i v p n) (draw : Int) (h8 : p.phase ≠ 8 ∧ p.phase ≠ 9 ∧ p.phase ≠ 10 ∧ p.phase ≠ 11 ∧ p.phase ≠ 12 ∧ p.phase ≠ 13 ∧ p.phase ≠ 14 ∧ p.phase ≠ 17) {p' : Pr} (e : lmove (L.setP i (incPr p)) v (incPr p) draw = p') : Same (lstep L i draw) (L.setP i p') :=
  (h.lsm draw h8 e).trans (Same.setP2 L i (incPr p) p').symm
/-- The other phases: what lstep is there. -/
theorem Here.lat (h : Here c L P i v p n) (draw : Int) : lstep L i draw = (match L.procs[i]? with
  | none => L
  | some _ =>
    if p.phase = 8 then
      match L.procs[p.mind.toNat]? with
      | none => L.setP i (incPr p)
      | some y => if meets (L.setP i (incPr p)) (incPr p) y.2 = true then ((L.setP i (incPr p)).setP p.mind.toNat { y.2 with met := i }).setP i (settledPr (incPr p) y.2 1) else (L.setP i (incPr p)).setP i { incPr p with phase := 9 }
    else if p.phase = 9 then ((L.setP i (incPr p)).hap v nilV ⟨5, clip L.c.width (2 * p.wide), 0, []⟩ nilV).setP i { incPr p with phase := 11 }
    else if p.phase = 10 then ((L.setP i (incPr p)).hap v nilV ⟨5, clip L.c.width (p.wide / 2), 0, []⟩ nilV).setP i { incPr p with phase := 11 }
    else if p.phase = 11 then ((L.setP i (incPr p)).hap v nilV ⟨4, 0, 0, []⟩ nilV).setP i { incPr p with node := 2 * p.node + (if p.kind = 2 then (togH (L.hist v) + 1) % 2 else togH (L.hist v)), phase := 0 }
    else if p.phase = 12 then
      if p.kind = 0 then ((L.setP i (incPr p)).hap v nilV ⟨6, 0, 0, []⟩ nilV).setP i { incPr p with val := rank v + putsH (L.hist v) * 2 ^ Nat.log2 v, phase := 19 }
      else if p.kind = 1 then ((L.setP i (incPr p)).hap v nilV ⟨6, 0, 0, []⟩ nilV).setP i { incPr p with ticket := putsH (L.hist v), phase := 13 }
      else ((L.setP i (incPr p)).hap v nilV ⟨7, 0, 0, []⟩ nilV).setP i { incPr p with ticket := manyH 7 (-1) (L.hist v), phase := 14 }
    else if p.phase = 13 then
      if roomyH L.c v (L.hist v) p.ticket = true then ((L.setP i (incPr p)).hap v nilV ⟨8, p.ticket, p.oval, []⟩ nilV).setP i { incPr p with phase := 19 } else L.setP i (incPr p)
    else if p.phase = 14 then
      match itemH (L.hist v) p.ticket with
      | some x => ((L.setP i (incPr p)).hap v nilV ⟨9, p.ticket, 0, []⟩ nilV).setP i { incPr p with val := x, phase := 19 }
      | none => L.setP i (incPr p)
    else if p.phase = 17 then
      if p.kind = 4 then ((L.setP i (incPr p)).unfolded v nilV nilV nilV nilV nilV).setP i (upPr { incPr p with val := 1 })
      else if formH (L.hist (2 * v)) = 1 ∨ formH (L.hist (2 * v + 1)) = 1 then (L.setP i (incPr p)).setP i (upPr { incPr p with val := 4 })
      else ((L.setP i (incPr p)).folded v nilV nilV nilV nilV).setP i (upPr { incPr p with val := 1 })
    else (L.setP i (incPr p)).setP i (lmove (L.setP i (incPr p)) v (incPr p) draw)) := by
  unfold lstep
  rw [List.getElem?_eq_getElem h.hi]
  simp only [h.ep, h.toNat]
  rfl
theorem Here.lget (h : Here c L P i v p n) : L.procs[i]? = some (L.procs[i]'h.hi) := List.getElem?_eq_getElem h.hi

theorem both_enter (h : Here c L P i v p n) (ck : CK c L P) (draw : Int) (hph : p.phase = 0) : BothV c B L P i draw := by
  have hin := insideL_le v L.procs
  have hnp := h.rel.np
  have h0 := h.nr.inside h.f3
  refine ⟨1, fun _ => P.foc v { n with inside := n.inside + 1 } i (toPP { incPr p with phase := 1 }), fun _ => L.setP i { incPr p with phase := 1 }, fun _ _ => h.center ck hph, fun _ => rfl, fun _ => rfl, fun _ => h.lsm1 draw ⟨by omega, by omega, by omega, by omega, by omega, by omega, by omega, by omega⟩ (by unfold lmove; rw [if_pos hph]), ?_, ?_⟩
  · refine h.prog draw (fun _ => { n with inside := n.inside + 1 }) (toPP { incPr p with phase := 1 }) ?_
    intro W g _ _ W' hb hf _
    exact (pstep_enter hf h.at' hph draw (by omega) (by omega)).mono fun e w' ⟨a, b⟩ => ⟨a, .slice none 0 0, b⟩
  · intro W hr hB
    obtain ⟨pb, hp, _⟩ := h.ref hr hB
    exact (rStep_enter hr hp hph draw).mono fun e w' ⟨a, b, d⟩ => ⟨a, ⟨.slice none 0 0, b⟩, d.mono (Nat.le_refl _) (by simp)⟩

theorem both_back (h : Here c L P i v p n) (ck : CK c L P) (draw : Int) (hph : p.phase = 2) : BothV c B L P i draw := by
  have hin := insideL_le v L.procs
  have hnp := h.rel.np
  have h0 := h.nr.inside h.f3
  refine ⟨0, fun _ => P.foc v { n with inside := n.inside - 1 } i (toPP { incPr p with phase := 0 }), fun _ => L.setP i { incPr p with phase := 0 }, fun _ _ => h.cback ck hph, fun _ => rfl, fun _ => rfl, fun _ => h.lsm1 draw ⟨by omega, by omega, by omega, by omega, by omega, by omega, by omega, by omega⟩ (by unfold lmove; rw [if_neg (show ¬ p.phase = 0 by omega), if_neg (show ¬ p.phase = 1 by omega), if_pos hph]), ?_, ?_⟩
  · refine h.prog draw (fun _ => { n with inside := n.inside - 1 }) (toPP { incPr p with phase := 0 }) ?_
    intro W g _ _ W' hb hf _
    exact (pstep_back hf h.at' hph draw (by omega) (by omega)).mono fun e w' ⟨a, b⟩ => ⟨a, .slice none 0 0, b⟩
  · intro W hr hB
    obtain ⟨pb, hp, _⟩ := h.ref hr hB
    exact (rStep_back hr hp hph draw).mono fun e w' ⟨a, b, d⟩ => ⟨a, ⟨.slice none 0 0, b⟩, d.mono (Nat.le_refl _) (by simp)⟩

theorem both_leave (h : Here c L P i v p n) (ck : CK c L P) (draw : Int) (hph : p.phase = 19) : BothV c B L P i draw := by
  have hin := insideL_le v L.procs
  have hnp := h.rel.np
  have h0 := h.nr.inside h.f3
  have hv := h.v32
  have ha := h.at'
  refine ⟨(upPr (incPr p)).phase, fun _ => P.foc v { n with inside := n.inside - 1 } i (toPP (upPr (incPr p))), fun _ => (L.setP i (incPr p)).setP i (upPr (incPr p)), fun _ _ => ?_, fun _ => rfl, fun _ => rfl, fun _ => h.lsm draw ⟨by omega, by omega, by omega, by omega, by omega, by omega, by omega, by omega⟩ (by unfold lmove; rw [if_neg (show ¬ p.phase = 0 by omega), if_neg (show ¬ p.phase = 1 by omega), if_neg (show ¬ p.phase = 2 by omega), if_neg (show ¬ p.phase = 3 by omega), if_neg (show ¬ p.phase = 4 by omega), if_neg (show ¬ p.phase = 5 by omega), if_neg (show ¬ p.phase = 6 by omega), if_neg (show ¬ p.phase = 7 by omega), if_neg (show ¬ p.phase = 15 by omega), if_neg (show ¬ p.phase = 16 by omega), if_neg (show ¬ p.phase = 18 by omega), if_pos hph]), ?_, ?_⟩
  · rw [Lay.setP_self h.hi]
    exact h.cleave ck hph
  · refine h.prog draw (fun _ => { n with inside := n.inside - 1 }) (toPP (upPr (incPr p))) ?_
    intro W g _ _ W' hb hf _
    exact (pstep_leave hf h.at' hph draw (by omega) (by omega)).mono fun e w' ⟨a, b⟩ => ⟨a, .slice none 0 0, b⟩
  · intro W hr hB
    obtain ⟨pb, hp, h1, hp1, hc, _, hpb⟩ := h.ref hr hB
    refine (rStep_up hr hp hph draw (R := fun ph w' => ph = (upPr (incPr p)).phase ∧ (∃ _x : Value, RefRep w' B ((L.setP i (incPr p)).setP i (upPr (incPr p)))) ∧ ChgT B [91, 69, 109] W w') ?_).mono ?_
    · refine (up_c hp1.blk (by show 0 ≤ p.node; omega) (by show p.node ≤ _; omega)).mono ?_
      rintro e w' ⟨e0, hw⟩
      exact ⟨e0, putb_end h.hi hpb h1 hp1 hc hw⟩
    · rintro e w' ⟨ph, e0, rfl, b, d⟩
      exact ⟨e0, b, d⟩

/-- A Look, of whomever: the process alone changes. -/
theorem both_looks (h : Here c L P i v p n) (draw : Int) (hph : p.phase = 1) (p' : Pr)
    (hls : Same (lstep L i draw) ((L.setP i (incPr p)).setP i p')) (hrel : CRel c ((L.setP i (incPr p)).setP i p') (P.foc v n i (toPP p')))
    (hprog : ∀ W g W', PF W B P v i g W' n (toPP p) → Calls Tryz.prog 67 #[.pointer (some ⟨g, i * 11, none⟩), .pointer (some ⟨P.tb, 8 + v * 21, none⟩)] W' fun e w' => e = .returned (.tuple #[]) ∧ PF W B P v i g w' n (toPP p'))
    (href : ∀ W1 pb, RefRep W1 B (L.setP i (incPr p)) → ProcAt W1 (L.setP i (incPr p)) i pb (incPr p) → Calls Tryz.prog 55 #[.pointer (some ⟨L.tb, 0, none⟩), .pointer (some ⟨pb, 0, none⟩)] W1 fun e w' => e = .returned (.tuple #[]) ∧ RefRep w' B ((L.setP i (incPr p)).setP i p') ∧ ChgT B [109] W1 w') : BothV c B L P i draw := by
  refine ⟨p'.phase, fun _ => P.foc v n i (toPP p'), fun _ => (L.setP i (incPr p)).setP i p', fun _ _ => hrel, fun _ => rfl, fun _ => rfl, fun _ => hls, ?_, ?_⟩
  · refine h.prog draw (fun _ => n) (toPP p') ?_
    intro W g _ _ W' hb hf _
    refine (pstep_look hf h.at' hph draw (R := fun w' => PF W B P v i g w' n (toPP p')) (fun W2 hb2 => hprog W g W2 (hf.below hb2))).mono fun e w' ⟨a, b⟩ => ⟨a, .slice none 0 0, b⟩
  · intro W hr hB
    obtain ⟨pb, hp, r1, hp1, hc, _, hpb⟩ := h.ref hr hB
    refine (rStep_look hr hp hph draw (R := fun ph w' => ph = p'.phase ∧ (∃ _x : Value, RefRep w' B ((L.setP i (incPr p)).setP i p')) ∧ ChgT B [91, 69, 109] W w') ?_).mono ?_
    · refine (href _ pb r1 hp1).mono ?_
      rintro e w' ⟨e0, b, d⟩
      refine ⟨e0, _, phase_at b (by simpa using h.hi) (by rw [inc_pb h.hi]; exact hpb), rfl, ⟨.slice none 0 0, b⟩, (hc.mono (Nat.le_refl _) (by simp)).trans (d.mono (Nat.le_refl _) (by simp))⟩
    · rintro e w' ⟨ph, e0, rfl, b, d⟩
      exact ⟨e0, b, d⟩

theorem Here.nshut (h : Here c L P i v p n) (ck : CK c L P) : n.shut = shutL v L.procs := by
  have := ck.si.shut v h.v1 h.vN h.f3
  rw [h.en] at this
  exact this
theorem Here.incShut (h : Here c L P i v p n) (ck : CK c L P) : shutL v (L.setP i (incPr p)).procs = n.shut := (h.inc.nshut (h.cinc ck)).symm

theorem both_look (h : Here c L P i v p n) (ck : CK c L P) (draw : Int) (hph : p.phase = 1) : BothV c B L P i draw := by
  have hk := h.q.kind
  have hs := h.incShut ck
  have hat : (incPr p).node = (v : Int) := h.at'
  cases hsh : n.shut with
  | true =>
    rw [hsh] at hs
    refine both_looks h draw hph { incPr p with phase := 2 } (h.lsm draw ⟨by omega, by omega, by omega, by omega, by omega, by omega, by omega, by omega⟩ (by unfold lmove; rw [if_neg (show ¬ p.phase = 0 by omega), if_pos hph, if_pos hs])) (h.inc.clookShut (h.cinc ck) hph) ?_ ?_
    · intro W g W' hfp
      exact plook_shut hfp hsh
    · intro W1 pb r1 hp1
      exact look_shut r1 hp1 hat h.vN (by rw [hat]; exact hs)
  | false =>
    rw [hsh] at hs
    have hs' : ¬ shutL (incPr p).node (L.setP i (incPr p)).procs = true := by rw [hat, hs]; simp
    by_cases k3 : p.kind < 3
    · have hlk : lookPr (L.setP i (incPr p)) v (incPr p) = { incPr p with phase := if formH ((L.setP i (incPr p)).hist v) = 1 then 3 else 12 } := by
        unfold lookPr
        rw [if_neg hs']
      have hpp : lookPP n (toPP p) = toPP { incPr p with phase := if formH ((L.setP i (incPr p)).hist v) = 1 then 3 else 12 } := by
        unfold lookPP
        by_cases hf : formH (L.hist v) = 1
        · have hin := (h.nr.inn hf).1
          have : formH ((L.setP i (incPr p)).hist v) = 1 := hf
          rw [hsh, hin, this]
          rfl
        · have hf2 : formH (L.hist v) = 2 := by have := h.nr.form; have := h.f3; omega
          have hin := (h.nr.leaf hf2).1
          have : ¬ formH ((L.setP i (incPr p)).hist v) = 1 := hf
          rw [hsh, hin, if_neg this]
          rfl
      refine both_looks h draw hph _ (h.lsm draw ⟨by omega, by omega, by omega, by omega, by omega, by omega, by omega, by omega⟩ (by unfold lmove; rw [if_neg (show ¬ p.phase = 0 by omega), if_pos hph, if_neg (show ¬ shutL v (L.setP i (incPr p)).procs = true by rw [hs]; simp), if_pos (show (incPr p).kind < 3 from k3)])) (h.inc.clook (h.cinc ck) hph k3 hs) ?_ ?_
      · intro W g W' hfp
        have := plook_walk hfp (by show p.kind < 3; exact k3)
        rw [hpp] at this
        exact this
      · intro W1 pb r1 hp1
        have := look_walk r1 hp1 hat h.vN (by show p.kind < 3; exact k3)
        rw [hlk] at this
        exact this
    · have hk34 : p.kind = 3 ∨ p.kind = 4 := by omega
      obtain ⟨o, ho, ho1, ho2, ho16, hab⟩ := h.target ck (by omega) (Or.inr (Or.inl hph))
      by_cases hf : formH (L.hist v) = 1
      · have hin := (h.nr.inn hf).1
        obtain ⟨t1, t2, t3, t4, t5⟩ := tw_facts ⟨o, by omega⟩ ⟨v, h.v32⟩ h.v1 hab
        simp only at t1 t2 t3 t4 t5
        refine both_looks h draw hph { incPr p with node := ((towards 6 o v : Nat) : Int), phase := if towards 6 o v = o then 15 else 0 } (h.lsm draw ⟨by omega, by omega, by omega, by omega, by omega, by omega, by omega, by omega⟩ (by unfold lmove; rw [if_neg (show ¬ p.phase = 0 by omega), if_pos hph, if_neg (show ¬ shutL v (L.setP i (incPr p)).procs = true by rw [hs]; simp), if_neg (show ¬ (incPr p).kind < 3 by show ¬ p.kind < 3; omega), if_pos (show formH ((L.setP i (incPr p)).hist v) = 1 from hf), (show (incPr p).onode.toNat = o by show p.onode.toNat = o; rw [ho]; simp)])) (h.inc.clookDown (h.cinc ck) hph (by show 3 ≤ p.kind; omega) hs hf ho ho1 ho2 ho16 hab) ?_ ?_
        · intro W g W' hfp
          have := plook_change hfp hsh hk34 h.at' ho (by omega)
          rw [show seekPP n (toPP p) v o = toPP { incPr p with node := ((towards 6 o v : Nat) : Int), phase := if towards 6 o v = o then 15 else 0 } from by unfold seekPP; rw [if_neg (by rw [hin]; simp)]; rfl] at this
          exact this
        · intro W1 pb r1 hp1
          have := look_down r1 hp1 hat h.vN (by have := h.v32; omega) ho (by omega) t1 hk34 (by rw [hat]; exact hs) hf
          rw [← t2] at this
          have e : (if Nat.log2 o - Nat.log2 v = 1 then (15 : Int) else 0) = if towards 6 o v = o then 15 else 0 := by
            by_cases x : towards 6 o v = o
            · rw [if_pos x, if_pos (t4.1 x)]
            · rw [if_neg x, if_neg (fun y => x (t4.2 y))]
          rw [e] at this
          exact this
      · have hf2 : formH (L.hist v) = 2 := by have := h.nr.form; have := h.f3; omega
        have hin := (h.nr.leaf hf2).1
        refine both_looks h draw hph { incPr p with val := 2, phase := 19 } (h.lsm draw ⟨by omega, by omega, by omega, by omega, by omega, by omega, by omega, by omega⟩ (by unfold lmove; rw [if_neg (show ¬ p.phase = 0 by omega), if_pos hph, if_neg (show ¬ shutL v (L.setP i (incPr p)).procs = true by rw [hs]; simp), if_neg (show ¬ (incPr p).kind < 3 by show ¬ p.kind < 3; omega), if_neg (show ¬ formH ((L.setP i (incPr p)).hist v) = 1 from hf)])) (h.inc.clookNot (h.cinc ck) hph (by show 3 ≤ p.kind; omega) hs) ?_ ?_
        · intro W g W' hfp
          have := plook_change hfp hsh hk34 h.at' ho (by omega)
          rw [show seekPP n (toPP p) v o = toPP { incPr p with val := 2, phase := 19 } from by unfold seekPP; rw [if_pos hin]; rfl] at this
          exact this
        · intro W1 pb r1 hp1
          exact look_not r1 hp1 hat h.vN hk34 (by rw [hat]; exact hs) hf2

theorem both_toggle (h : Here c L P i v p n) (ck : CK c L P) (draw : Int) (hph : p.phase = 11) : BothV c B L P i draw := by
  have hf := h.inner (by omega) (by omega)
  obtain ⟨_, htg, _⟩ := h.nr.inn hf
  have ht01 : togH (L.hist v) = 0 ∨ togH (L.hist v) = 1 := by unfold togH; omega
  have hv := h.v32
  have ha := h.at'
  have hfn := h.rel.fn v h.vN
  have hll := h.rel.hlen v h.vN
  have hm4 := manyH_le 4 (-1) (L.hist v)
  have hb : (if p.kind = 2 then (togH (L.hist v) + 1) % 2 else togH (L.hist v)) = 0 ∨ (if p.kind = 2 then (togH (L.hist v) + 1) % 2 else togH (L.hist v)) = 1 := by split <;> omega
  have hbb : (if (toPP p).kind = 2 then 1 - n.toggle else n.toggle) = (if p.kind = 2 then (togH (L.hist v) + 1) % 2 else togH (L.hist v)) := by
    rw [htg]
    show (if p.kind = 2 then _ else _) = _
    split <;> omega
  refine ⟨0, fun _ => P.foc v { n with toggle := 1 - n.toggle } i (downPP (toPP p) (if (toPP p).kind = 2 then 1 - n.toggle else n.toggle)), fun x => (L.hap v x ⟨4, 0, 0, []⟩ (.slice none 0 0)).setP i { incPr p with node := 2 * p.node + (if p.kind = 2 then (togH (L.hist v) + 1) % 2 else togH (L.hist v)), phase := 0 }, fun x _ => ?_, fun _ => rfl, fun _ => rfl, fun x => by rw [h.lat draw, h.lget]; simp only; rw [if_neg (show ¬ p.phase = 8 by omega), if_neg (show ¬ p.phase = 9 by omega), if_neg (show ¬ p.phase = 10 by omega), if_pos hph]; exact (Same.setP2 (L.hap v nilV ⟨4, 0, 0, []⟩ nilV) i (incPr p) _).symm.trans (((Same.refl L).hap v nilV x ⟨4, 0, 0, []⟩ nilV (.slice none 0 0)).setP i _), ?_, ?_⟩
  · rw [hbb]
    exact h.ctoggle ck hph x _ rfl (wrap64 (p.steps + 1))
  · refine h.prog draw (fun _ => { n with toggle := 1 - n.toggle }) (downPP (toPP p) (if (toPP p).kind = 2 then 1 - n.toggle else n.toggle)) ?_
    intro W g _ _ W' hb hf _
    refine (pstep_toggle hf h.at' hph draw (R := fun w' => PF W B P v i g w' { n with toggle := 1 - n.toggle } (downPP (toPP p) (if (toPP p).kind = 2 then 1 - n.toggle else n.toggle))) (fun W2 hb2 => turn_c (hf.below hb2) (by show 0 ≤ p.node; omega) (by show p.node ≤ _; omega) (by rw [htg]; exact ht01))).mono fun e w' ⟨a, b⟩ => ⟨a, .slice none 0 0, b⟩
  · intro W hr hB
    obtain ⟨pb, hp, _⟩ := h.ref hr hB
    refine (rStep_toggle hr hB hp hph h.at' (by omega) h.vN (by omega) hfn.1 (by omega) (by omega) draw).mono ?_
    rintro e w' ⟨e0, x, b, d⟩
    exact ⟨e0, ⟨x, b⟩, d⟩
end

section
variable {c : Conf} {B : Nat} {L : Lay} {P : PLay} {i v : Nat} {p : Pr} {n : PN}

/-- A step at a slot that writes, of the document's tree, this process alone. -/
theorem both_slot (h : Here c L P i v p n) (_ck : CK c L P) (draw : Int) (hph : p.phase = 3 ∨ p.phase = 4 ∨ p.phase = 5 ∨ p.phase = 6 ∨ p.phase = 7 ∨ p.phase = 8 ∨ p.phase = 9 ∨ p.phase = 10) (n' : PN) (p' : Pr)
    (hls : Same (lstep L i draw) ((L.setP i (incPr p)).setP i p')) (hrel : CRel c ((L.setP i (incPr p)).setP i p') (P.foc v n' i (toPP p')))
    (hprog : ∀ W g W', PF W B P v i g W' n (toPP p) → Calls Tryz.prog 68 #[.pointer (some ⟨P.tb, 0, none⟩), I i, I draw] W' fun e w' => e = .returned (.tuple #[]) ∧ PF W B P v i g w' n' (toPP p'))
    (href : ∀ W1 pb, RefRep W1 B (L.setP i (incPr p)) → ProcAt W1 (L.setP i (incPr p)) i pb (incPr p) → Calls Tryz.prog 61 #[.pointer (some ⟨L.tb, 0, none⟩), .pointer (some ⟨pb, 0, none⟩), I i, I draw] W1 fun e w' => e = .returned (.tuple #[]) ∧ PutB W1 w' pb (prCells p') 109) : BothV c B L P i draw := by
  refine ⟨p'.phase, fun _ => P.foc v n' i (toPP p'), fun _ => (L.setP i (incPr p)).setP i p', fun _ _ => hrel, fun _ => rfl, fun _ => rfl, fun _ => hls, ?_, ?_⟩
  · refine h.prog draw (fun _ => n') (toPP p') ?_
    intro W g _ _ W' hb hf _
    refine (pstep_slot hf h.at' hph draw (R := fun w' => PF W B P v i g w' n' (toPP p')) (fun W2 hb2 => hprog W g W2 (hf.below hb2))).mono fun e w' ⟨a, b⟩ => ⟨a, .slice none 0 0, b⟩
  · intro W hr hB
    obtain ⟨pb, hp, h1, hp1, hc, _, hpb⟩ := h.ref hr hB
    refine (rStep_meeting hr hp hph draw (R := fun ph w' => ph = p'.phase ∧ (∃ _x : Value, RefRep w' B ((L.setP i (incPr p)).setP i p')) ∧ ChgT B [91, 69, 109] W w') ?_).mono ?_
    · refine (href _ pb h1 hp1).mono ?_
      rintro e w' ⟨e0, hw⟩
      exact ⟨e0, putb_end h.hi hpb h1 hp1 hc hw⟩
    · rintro e w' ⟨ph, e0, rfl, b, d⟩
      exact ⟨e0, b, d⟩

theorem both_wide (h : Here c L P i v p n) (ck : CK c L P) (draw : Int) (hph : p.phase = 3) : BothV c B L P i draw := by
  have hf := h.inner (by omega) (by omega)
  obtain ⟨_, _, a3, a4, a5, _⟩ := h.nr.inn hf
  have hc := h.rel.confs
  obtain ⟨k, hk, hs⟩ := h.slotk
  obtain ⟨m, hm⟩ := Int.eq_ofNat_of_zero_le (by omega : 0 ≤ n.width)
  have hmw : widthH (L.hist v) = (m : Int) := by rw [← a3, hm]
  refine both_slot h ck draw (by omega) n { incPr p with wide := m, slot := draw % m, phase := 4 } (h.lsm draw ⟨by omega, by omega, by omega, by omega, by omega, by omega, by omega, by omega⟩ (by unfold lmove; rw [if_neg (show ¬ p.phase = 0 by omega), if_neg (show ¬ p.phase = 1 by omega), if_neg (show ¬ p.phase = 2 by omega), if_pos hph, show widthH ((L.setP i (incPr p)).hist v) = (m : Int) from hmw])) (h.inc.cwide (h.cinc ck) hph draw m hmw) ?_ ?_
  · intro W g W' hfp
    exact atSlot_wide hfp h.at' (k := k) hs hk hph draw m hm (by omega) (by omega)
  · intro W1 pb h1 hp1
    exact meet_wide h1 hp1 hph h.at' h.vN draw m hmw (by omega) (by omega)

theorem inc_other {j : Nat} (hji : j ≠ i) (hj : j < L.procs.length) (hj' : j < (L.setP i (incPr p)).procs.length) : (L.setP i (incPr p)).procs[j] = L.procs[j] := by
  simp only [List.getElem_set_ne (Ne.symm hji)]

theorem pb_ne {W : World} {X : Lay} (hr : RefRep W B X) {j pb : Nat} {p1 : Pr} (hp : ProcAt W X i pb p1) (hj : j < X.procs.length) (hji : j ≠ i) : (X.procs[j]).1 ≠ pb := by
  intro e
  have : (X.procs[i]'hp.hi).1 = pb := by have := hp.eb; simpa [List.getD_eq_getElem?_getD, List.getElem?_eq_getElem hp.hi] using this
  exact hji (hr.pnd j i hj hp.hi (by rw [e, this]))

theorem both_atSlot (h : Here c L P i v p n) (ck : CK c L P) (draw : Int) (hph : p.phase = 4) : BothV c B L P i draw := by
  have hf := h.inner (by omega) (by omega)
  obtain ⟨k, hk, hs⟩ := h.slotk
  have hsr := h.inc.slotRel hf hk
  have hwl := hsr.waits
  rcases hsr with ⟨s0, _⟩ | ⟨j, hj, a1, a2, a3, a4⟩
  · have e : slotPP (n.slot k) (toPP p) = toPP { incPr p with phase := 5 } := by unfold slotPP; rw [if_pos s0]; rfl
    have hneg : waitsL p.node p.slot (L.setP i (incPr p)).procs 0 < 0 := by rw [h.at', hs]; omega
    refine both_slot h ck draw (by omega) n { incPr p with phase := 5 } (h.lsm draw ⟨by omega, by omega, by omega, by omega, by omega, by omega, by omega, by omega⟩ (by unfold lmove; rw [if_neg (show ¬ p.phase = 0 by omega), if_neg (show ¬ p.phase = 1 by omega), if_neg (show ¬ p.phase = 2 by omega), if_neg (show ¬ p.phase = 3 by omega), if_pos hph, if_pos (show waitsL v (incPr p).slot (L.setP i (incPr p)).procs 0 < 0 by have := hneg; rw [h.at'] at this; exact this)])) (h.inc.camong (h.cinc ck) (by show 3 ≤ p.phase; omega) (by show p.phase ≤ 10; omega) (by show p.phase ≠ 6; omega) (by show p.phase ≠ 7; omega) 5 (incPr p).mind (by omega) (fun a => absurd a (by simp)) (by show 4 ≤ p.phase; omega)) ?_ ?_
    · intro W g W' hfp
      have := atSlot_look hfp h.at' (k := k) hs hk hph draw
      rw [e] at this
      exact this
    · intro W1 pb h1 hp1
      exact meet_slot_free h1 hp1 hph draw hneg
  · have hj0 : j < L.procs.length := by simpa using hj
    have hji : j ≠ i := by
      intro e
      subst e
      have : waitP v k (incPr p) = true := by have := a2; rw [h.inc.ep] at this; exact this
      simp [waitP, hph] at this
    have hwj : waitsL p.node p.slot (L.setP i (incPr p)).procs 0 = (j : Int) := by
      rw [h.at', hs, waitsL_some _ _ _ _ j hj a2 a3]; simp
    rcases a4 with ⟨s1, _, m1⟩ | ⟨s2, b, by1, m2, hb, hbj⟩
    · have e : slotPP (n.slot k) (toPP p) = toPP { incPr p with mind := j, phase := 8 } := by unfold slotPP; rw [if_neg (by omega), if_pos s1, a1]; rfl
      refine both_slot h ck draw (by omega) n { incPr p with mind := j, phase := 8 } (h.lsm draw ⟨by omega, by omega, by omega, by omega, by omega, by omega, by omega, by omega⟩ (by have hw0 : waitsL v (incPr p).slot (L.setP i (incPr p)).procs 0 = (j : Int) := (by have := hwj; rw [h.at'] at this; exact this); unfold lmove; rw [if_neg (show ¬ p.phase = 0 by omega), if_neg (show ¬ p.phase = 1 by omega), if_neg (show ¬ p.phase = 2 by omega), if_neg (show ¬ p.phase = 3 by omega), if_pos hph, hw0, if_neg (show ¬ ((j : Int) < 0) by omega), Int.toNat_natCast, List.getElem?_eq_getElem hj]; simp only; rw [if_neg (show ¬ (0 : Int) ≤ ((L.setP i (incPr p)).procs[j]).2.met by rw [m1]; omega)])) (h.inc.camong (h.cinc ck) (by show 3 ≤ p.phase; omega) (by show p.phase ≤ 10; omega) (by show p.phase ≠ 6; omega) (by show p.phase ≠ 7; omega) 8 j (by omega) (fun _ => ⟨j, rfl, hj, hji⟩) (by show 4 ≤ p.phase; omega)) ?_ ?_
      · intro W g W' hfp
        have := atSlot_look hfp h.at' (k := k) hs hk hph draw
        rw [e] at this
        exact this
      · intro W1 pb h1 hp1
        have := meet_slot_who h1 hp1 (h1.procAt hj) hph draw hwj
        rw [show slotPr (incPr p) ((L.setP i (incPr p)).procs[j]).2 j = { incPr p with mind := j, phase := 8 } from by unfold slotPr; rw [if_neg (by omega)]] at this
        exact this
    · have e : slotPP (n.slot k) (toPP p) = toPP { incPr p with phase := 11 } := by unfold slotPP; rw [if_neg (by omega), if_neg (by omega)]; rfl
      refine both_slot h ck draw (by omega) n { incPr p with phase := 11 } (h.lsm draw ⟨by omega, by omega, by omega, by omega, by omega, by omega, by omega, by omega⟩ (by have hw0 : waitsL v (incPr p).slot (L.setP i (incPr p)).procs 0 = (j : Int) := (by have := hwj; rw [h.at'] at this; exact this); unfold lmove; rw [if_neg (show ¬ p.phase = 0 by omega), if_neg (show ¬ p.phase = 1 by omega), if_neg (show ¬ p.phase = 2 by omega), if_neg (show ¬ p.phase = 3 by omega), if_pos hph, hw0, if_neg (show ¬ ((j : Int) < 0) by omega), Int.toNat_natCast, List.getElem?_eq_getElem hj]; simp only; rw [if_pos (show (0 : Int) ≤ ((L.setP i (incPr p)).procs[j]).2.met by rw [m2]; omega)])) (h.inc.camong (h.cinc ck) (by show 3 ≤ p.phase; omega) (by show p.phase ≤ 10; omega) (by show p.phase ≠ 6; omega) (by show p.phase ≠ 7; omega) 11 (incPr p).mind (by omega) (fun a => absurd a (by simp)) (by show 4 ≤ p.phase; omega)) ?_ ?_
      · intro W g W' hfp
        have := atSlot_look hfp h.at' (k := k) hs hk hph draw
        rw [e] at this
        exact this
      · intro W1 pb h1 hp1
        have := meet_slot_who h1 hp1 (h1.procAt hj) hph draw hwj
        rw [show slotPr (incPr p) ((L.setP i (incPr p)).procs[j]).2 j = { incPr p with phase := 11 } from by unfold slotPr; rw [if_pos (by omega)]] at this
        exact this

theorem both_claim (h : Here c L P i v p n) (ck : CK c L P) (draw : Int) (hph : p.phase = 5) : BothV c B L P i draw := by
  have hf := h.inner (by omega) (by omega)
  obtain ⟨k, hk, hs⟩ := h.slotk
  have hwl := (h.inc.slotRel hf hk).waits
  by_cases s0 : (n.slot k).st = 0
  · have hneg : waitsL p.node p.slot (L.setP i (incPr p)).procs 0 < 0 := by rw [h.at', hs]; omega
    have e1 : claimPN n k i = n.setSlot k ⟨1, i, 0⟩ := by unfold claimPN; rw [if_pos s0]
    have e2 : claimPP P.c (n.slot k) (toPP p) = toPP { incPr p with phase := 6, met := -1, pat := c.spin } := by unfold claimPP; rw [if_pos s0, h.rel.cP]; rfl
    refine both_slot h ck draw (by omega) (n.setSlot k ⟨1, i, 0⟩) { incPr p with phase := 6, met := -1, pat := c.spin } (h.lsm draw ⟨by omega, by omega, by omega, by omega, by omega, by omega, by omega, by omega⟩ (by unfold lmove; rw [if_neg (show ¬ p.phase = 0 by omega), if_neg (show ¬ p.phase = 1 by omega), if_neg (show ¬ p.phase = 2 by omega), if_neg (show ¬ p.phase = 3 by omega), if_neg (show ¬ p.phase = 4 by omega), if_pos hph, if_pos (show waitsL v (incPr p).slot (L.setP i (incPr p)).procs 0 < 0 by have := hneg; rw [h.at'] at this; exact this), show (L.setP i (incPr p)).c = c from h.rel.cL])) (h.inc.cclaim (h.cinc ck) hph hk hs s0) ?_ ?_
    · intro W g W' hfp
      have := atSlot_claim hfp h.at' (k := k) hs hk hph draw
      rw [e1, e2] at this
      exact this
    · intro W1 pb h1 hp1
      have := meet_claim h1 hp1 hph draw hneg
      rw [show (L.setP i (incPr p)).c = c from h.rel.cL] at this
      exact this
  · have hge : 0 ≤ waitsL p.node p.slot (L.setP i (incPr p)).procs 0 := by
      rw [h.at', hs]
      rcases h.inc.slotRel hf hk with ⟨s0', _⟩ | ⟨j, hj, a1, _⟩
      · exact absurd s0' s0
      · rcases hwl with ⟨x, _⟩ | ⟨_, x⟩
        · exact absurd x s0
        · rw [x, a1]; omega
    have e1 : claimPN n k i = n := by unfold claimPN; rw [if_neg s0]
    have e2 : claimPP P.c (n.slot k) (toPP p) = toPP { incPr p with phase := 9 } := by unfold claimPP; rw [if_neg s0]; rfl
    refine both_slot h ck draw (by omega) n { incPr p with phase := 9 } (h.lsm draw ⟨by omega, by omega, by omega, by omega, by omega, by omega, by omega, by omega⟩ (by unfold lmove; rw [if_neg (show ¬ p.phase = 0 by omega), if_neg (show ¬ p.phase = 1 by omega), if_neg (show ¬ p.phase = 2 by omega), if_neg (show ¬ p.phase = 3 by omega), if_neg (show ¬ p.phase = 4 by omega), if_pos hph, if_neg (show ¬ waitsL v (incPr p).slot (L.setP i (incPr p)).procs 0 < 0 by have := hge; rw [h.at'] at this; exact Int.not_lt.2 this)])) (h.inc.camong (h.cinc ck) (by show 3 ≤ p.phase; omega) (by show p.phase ≤ 10; omega) (by show p.phase ≠ 6; omega) (by show p.phase ≠ 7; omega) 9 (incPr p).mind (by omega) (fun a => absurd a (by simp)) (by show 4 ≤ p.phase; omega)) ?_ ?_
    · intro W g W' hfp
      have := atSlot_claim hfp h.at' (k := k) hs hk hph draw
      rw [e1, e2] at this
      exact this
    · intro W1 pb h1 hp1
      exact meet_claim_no h1 hp1 hph draw hge

theorem both_wait (h : Here c L P i v p n) (ck : CK c L P) (draw : Int) (hph : p.phase = 6) : BothV c B L P i draw := by
  obtain ⟨k, hk, hs⟩ := h.slotk
  have hpt := h.q.pat
  obtain ⟨_, he⟩ := h.inc.wait hph hk hs
  have he' : toPP (waitPr (incPr p)) = waitPP (n.slot k) (toPP p) := he
  refine both_slot h ck draw (by omega) (waitPN n k (toPP p)) (waitPr (incPr p)) (h.lsm draw ⟨by omega, by omega, by omega, by omega, by omega, by omega, by omega, by omega⟩ (by unfold lmove; rw [if_neg (show ¬ p.phase = 0 by omega), if_neg (show ¬ p.phase = 1 by omega), if_neg (show ¬ p.phase = 2 by omega), if_neg (show ¬ p.phase = 3 by omega), if_neg (show ¬ p.phase = 4 by omega), if_neg (show ¬ p.phase = 5 by omega), if_pos hph])) (by rw [he']; exact h.inc.cwait (h.cinc ck) hph hk hs) ?_ ?_
  · intro W g W' hfp
    rw [he']
    exact atSlot_wait hfp h.at' (k := k) hs hk hph draw (by show p.pat ≤ _; omega)
  · intro W1 pb h1 hp1
    exact meet_wait hp1.blk hph (by show p.pat ≤ _; omega) draw

theorem both_taken (h : Here c L P i v p n) (ck : CK c L P) (draw : Int) (hph : p.phase = 7) : BothV c B L P i draw := by
  have hf := h.inner (by omega) (by omega)
  obtain ⟨k, hk, hs⟩ := h.slotk
  have hv := h.v32
  have ha := h.at'
  obtain ⟨_, hm⟩ := h.mine (Or.inr hph) hk hs hf
  rcases hm with ⟨_, x, _⟩ | ⟨s2, b, by1, m2, hb, hbi⟩
  · omega
  have hb1 : b < (L.setP i (incPr p)).procs.length := by simpa using hb
  have hbq : (L.setP i (incPr p)).procs[b] = L.procs[b] := inc_other hbi hb hb1
  have hbP : b < P.procs.length := by rw [h.rel.procs, List.length_map]; exact hb
  have hpb : P.procs[b] = toPP (L.procs[b]).2 := by simp [h.rel.procs]
  have ep : toPP (settledPr { incPr p with met := -1 } (L.procs[b]).2 0) = settlePP (toPP p) ⟨(P.procs[b]).kind, (P.procs[b]).oval, (P.procs[b]).onode⟩ 0 := by
    rw [settled_toPP (incPr p), hpb]
    rfl
  refine both_slot h ck draw (by omega) (n.setSlot k zeroSL) (settledPr { incPr p with met := -1 } (L.procs[b]).2 0) (h.lsm draw ⟨by omega, by omega, by omega, by omega, by omega, by omega, by omega, by omega⟩ (by unfold lmove; rw [if_neg (show ¬ p.phase = 0 by omega), if_neg (show ¬ p.phase = 1 by omega), if_neg (show ¬ p.phase = 2 by omega), if_neg (show ¬ p.phase = 3 by omega), if_neg (show ¬ p.phase = 4 by omega), if_neg (show ¬ p.phase = 5 by omega), if_neg (show ¬ p.phase = 6 by omega), if_pos hph, show (incPr p).met = (b : Int) from m2, Int.toNat_natCast, List.getElem?_eq_getElem hb1]; simp only; rw [hbq])) (by have := h.inc.ctaken (h.cinc ck) hph hk hs b m2 hb1; rw [hbq] at this; exact this) ?_ ?_
  · intro W g W' hfp
    rw [ep]
    exact atSlot_taken hfp h.at' (k := k) hs hk hph draw b hbP hbi by1 (by show 0 ≤ p.node; omega) (by show p.node ≤ _; omega)
  · intro W1 pb h1 hp1
    have hq := h1.procAt hb1
    rw [hbq] at hq
    exact meet_taken h1 hp1 hq (by rw [← hbq]; exact pb_ne h1 hp1 hb1 hbi) hph m2 (by show 0 ≤ p.node; omega) (by show p.node ≤ _; omega) draw

theorem settled_phase (p q : Pr) (x b : Int) : settledPr { p with phase := x } q b = settledPr p q b := by
  unfold settledPr
  split
  · rfl
  · split <;> rfl

theorem settled_met (p q : Pr) (x b : Int) : settledPr p { q with met := x } b = settledPr p q b := rfl

theorem both_meet (h : Here c L P i v p n) (ck : CK c L P) (draw : Int) (hph : p.phase = 8) : BothV c B L P i draw := by
  have hf := h.inner (by omega) (by omega)
  obtain ⟨k, hk, hs⟩ := h.slotk
  have hv := h.v32
  have ha := h.at'
  have hphs : p.phase = 3 ∨ p.phase = 4 ∨ p.phase = 5 ∨ p.phase = 6 ∨ p.phase = 7 ∨ p.phase = 8 ∨ p.phase = 9 ∨ p.phase = 10 := by omega
  by_cases hm : meetsP (n.slot k) (toPP p)
  · obtain ⟨j, hj, m1, hji, hwh, hmt, hw2⟩ := h.inc.cmeet (h.cinc ck) hph hk hs hm
    have hj0 : j < L.procs.length := by simpa using hj
    have hbq : (L.setP i (incPr p)).procs[j] = L.procs[j] := inc_other hji hj0 hj
    have hjP : j < P.procs.length := by rw [h.rel.procs, List.length_map]; exact hj0
    have hpj : P.procs[j] = toPP (L.procs[j]).2 := by simp [h.rel.procs]
    have ep : toPP (settledPr { incPr p with met := (incPr p).met } { ((L.setP i (incPr p)).procs[j]).2 with met := i } 1) = settlePP (toPP p) ⟨(P.procs[j]).kind, (P.procs[j]).oval, (P.procs[j]).onode⟩ 1 := by
      rw [settled_toPP (incPr p), hpj, hbq]
      rfl
    refine ⟨(settledPr { incPr p with met := (incPr p).met } { ((L.setP i (incPr p)).procs[j]).2 with met := i } 1).phase, fun _ => P.foc v (n.setSlot k ⟨2, (n.slot k).wh, i⟩) i (toPP (settledPr { incPr p with met := (incPr p).met } { ((L.setP i (incPr p)).procs[j]).2 with met := i } 1)), fun _ => ((L.setP i (incPr p)).setP j { ((L.setP i (incPr p)).procs[j]).2 with met := i }).setP i (settledPr { incPr p with met := (incPr p).met } { ((L.setP i (incPr p)).procs[j]).2 with met := i } 1), fun _ _ => ?_, fun _ => rfl, fun _ => rfl, fun _ => by rw [h.lat draw, h.lget]; simp only; rw [if_pos hph, show p.mind.toNat = j from by rw [show p.mind = (j : Int) from m1]; simp, List.getElem?_eq_getElem hj0]; simp only; rw [if_pos (by rw [← hbq]; exact hmt)]; exact (by rw [hbq, settled_met]; exact Same.refl _), ?_, ?_⟩
    · have : (P.foc v (n.setSlot k ⟨2, (n.slot k).wh, i⟩) i (toPP (incPr p))).foc v (n.setSlot k ⟨2, (n.slot k).wh, i⟩) i (toPP (settledPr { incPr p with met := (incPr p).met } { ((L.setP i (incPr p)).procs[j]).2 with met := i } 1)) = P.foc v (n.setSlot k ⟨2, (n.slot k).wh, i⟩) i (toPP (settledPr { incPr p with met := (incPr p).met } { ((L.setP i (incPr p)).procs[j]).2 with met := i } 1)) := by
        show ({ P with nodes := (P.nodes.set v _).set v _, procs := (P.procs.set i _).set i _ } : PLay) = { P with nodes := P.nodes.set v _, procs := P.procs.set i _ }
        rw [List.set_set, List.set_set]
      rw [← this]
      exact hw2
    · refine h.prog draw (fun _ => n.setSlot k ⟨2, (n.slot k).wh, i⟩) (toPP (settledPr { incPr p with met := (incPr p).met } { ((L.setP i (incPr p)).procs[j]).2 with met := i } 1)) ?_
      intro W g _ _ W' hb hfp _
      refine (pstep_slot hfp h.at' hphs draw (R := fun w' => PF W B P v i g w' (n.setSlot k ⟨2, (n.slot k).wh, i⟩) (toPP (settledPr { incPr p with met := (incPr p).met } { ((L.setP i (incPr p)).procs[j]).2 with met := i } 1))) (fun W2 hb2 => ?_)).mono fun e w' ⟨a, b⟩ => ⟨a, .slice none 0 0, b⟩
      rw [ep]
      exact atSlot_meet_yes (hfp.below hb2) h.at' (k := k) hs hk hph draw hm j hjP hji hwh (by show 0 ≤ p.node; omega) (by show p.node ≤ _; omega)
    · intro W hr hB
      obtain ⟨pb, hp, h1, hp1, hc, _, hpb⟩ := h.ref hr hB
      refine (rStep_meeting hr hp (by omega) draw (R := fun ph w' => ph = (settledPr { incPr p with met := (incPr p).met } { ((L.setP i (incPr p)).procs[j]).2 with met := i } 1).phase ∧ (∃ _x : Value, RefRep w' B (((L.setP i (incPr p)).setP j { ((L.setP i (incPr p)).procs[j]).2 with met := i }).setP i (settledPr { incPr p with met := (incPr p).met } { ((L.setP i (incPr p)).procs[j]).2 with met := i } 1))) ∧ ChgT B [91, 69, 109] W w') ?_).mono ?_
      · refine (meet_yes h1 hp1 (h1.procAt hj) (pb_ne h1 hp1 hj hji) hph m1 hmt (by show 0 ≤ p.node; omega) (by show p.node ≤ _; omega) draw).mono ?_
        rintro e w' ⟨e0, b, d⟩
        rw [settled_phase] at b
        refine ⟨e0, _, phase_at b (by simpa using h.hi) ?_, rfl, ⟨.slice none 0 0, b⟩, (hc.mono (Nat.le_refl _) (by simp)).trans (d.mono (Nat.le_refl _) (by simp))⟩
        simp only [List.getElem_set_ne hji]
        have := inc_pb (p := p) h.hi (by simpa using h.hi)
        simp only [List.getElem_set_self] at this ⊢
        rw [this]
        exact hpb
      · rintro e w' ⟨ph, e0, rfl, b, d⟩
        exact ⟨e0, b, d⟩
  · obtain ⟨j, mj, hj, hji⟩ := h.q.mind hph
    have hj1 : j < (L.setP i (incPr p)).procs.length := by simpa using hj
    have hno : meets (L.setP i (incPr p)) (incPr p) ((L.setP i (incPr p)).procs[j]).2 = false := by
      unfold meets
      have hsr := h.inc.slotRel hf hk
      have hwl := hsr.waits
      show (decide (waitsL p.node p.slot _ 0 = p.mind) && _ && _) = false
      rw [h.at', hs, mj]
      rcases hsr with ⟨s0, _⟩ | ⟨a, ha', a1, a2, a3, a4⟩
      · rcases hwl with ⟨_, x⟩ | ⟨x, _⟩
        · rw [x]; simp
        · omega
      · rw [waitsL_some _ _ _ _ a ha' a2 a3]
        by_cases e : a = j
        · subst e
          rcases a4 with ⟨s1, _, _⟩ | ⟨_, b, _, m2, _⟩
          · exact absurd ⟨s1, by rw [a1]; exact mj.symm⟩ hm
          · rw [m2]; simp
        · simp; intro e'; omega
    refine both_slot h ck draw (by omega) n { incPr p with phase := 9 } (by rw [h.lat draw, h.lget]; simp only; rw [if_pos hph, show p.mind.toNat = j from by rw [mj]; simp, List.getElem?_eq_getElem hj]; simp only; rw [if_neg (by have := hno; rw [inc_other hji hj hj1] at this; rw [this]; simp)]; exact Same.refl _) (h.inc.camong (h.cinc ck) (by show 3 ≤ p.phase; omega) (by show p.phase ≤ 10; omega) (by show p.phase ≠ 6; omega) (by show p.phase ≠ 7; omega) 9 (incPr p).mind (by omega) (fun a => absurd a (by simp)) (by show 4 ≤ p.phase; omega)) ?_ ?_
    · intro W g W' hfp
      exact atSlot_meet_no hfp h.at' (k := k) hs hk hph draw hm
    · intro W1 pb h1 hp1
      exact meet_no h1 hp1 (h1.procAt hj1) (pb_ne h1 hp1 hj1 hji) hph mj hno draw

/-- Grow and Shrink. -/
theorem both_widen (h : Here c L P i v p n) (ck : CK c L P) (draw : Int) (hph : p.phase = 9 ∨ p.phase = 10) : BothV c B L P i draw := by
  have hf := h.inner (by omega) (by omega)
  obtain ⟨k, hk, hs⟩ := h.slotk
  obtain ⟨w0, w1, w2⟩ := h.q.wide
  have hw1 := w2 (by omega) (by omega)
  have hc := h.rel.confs
  have hll := h.rel.hlen v h.vN
  have hphs : p.phase = 3 ∨ p.phase = 4 ∨ p.phase = 5 ∨ p.phase = 6 ∨ p.phase = 7 ∨ p.phase = 8 ∨ p.phase = 9 ∨ p.phase = 10 := by omega
  have hfoc : ∀ z : Int, ∀ x : Value, 1 ≤ z → z ≤ c.width → CRel c (((L.setP i (incPr p)).hap v x ⟨5, z, 0, []⟩ (.slice none 0 0)).setP i { incPr p with phase := 11 }) (P.foc v { n with width := z } i (toPP { incPr p with phase := 11 })) := fun z x a b => h.inc.cwiden (h.cinc ck) hph x z a b
  rcases hph with h9 | h10
  · have ez : growW P.c (toPP p) = clip c.width (2 * p.wide) := by
      rw [h.rel.cP]
      unfold growW clip
      show (if c.width < 2 * p.wide then c.width else 2 * p.wide) = _
      split <;> split <;> omega
    have hz : 1 ≤ clip c.width (2 * p.wide) ∧ clip c.width (2 * p.wide) ≤ c.width := by unfold clip; split <;> split <;> omega
    refine ⟨11, fun _ => P.foc v { n with width := clip c.width (2 * p.wide) } i (toPP { incPr p with phase := 11 }), fun x => ((L.setP i (incPr p)).hap v x ⟨5, clip c.width (2 * p.wide), 0, []⟩ (.slice none 0 0)).setP i { incPr p with phase := 11 }, fun x _ => hfoc _ x hz.1 hz.2, fun _ => rfl, fun _ => rfl, fun x => by rw [h.lat draw, h.lget]; simp only; rw [if_neg (show ¬ p.phase = 8 by omega), if_pos h9, h.rel.cL]; exact ((Same.refl _).hap _ _ _ _ _ _).setP _ _, ?_, ?_⟩
    · refine h.prog draw (fun _ => { n with width := clip c.width (2 * p.wide) }) (toPP { incPr p with phase := 11 }) ?_
      intro W g _ _ W' hb hfp _
      refine (pstep_slot hfp h.at' hphs draw (R := fun w' => PF W B P v i g w' { n with width := clip c.width (2 * p.wide) } (toPP { incPr p with phase := 11 })) (fun W2 hb2 => ?_)).mono fun e w' ⟨a, b⟩ => ⟨a, .slice none 0 0, b⟩
      rw [← ez]
      exact atSlot_grow (hfp.below hb2) h.at' (k := k) hs hk h9 draw (by show 0 ≤ p.wide; omega) (by show p.wide ≤ _; omega)
    · intro W hr hB
      obtain ⟨pb, hp, h1, hp1, hc1, hB1, hpb⟩ := h.ref hr hB
      refine (rStep_meeting hr hp (by omega) draw (R := fun ph w' => ph = 11 ∧ (∃ x : Value, RefRep w' B (((L.setP i (incPr p)).hap v x ⟨5, clip c.width (2 * p.wide), 0, []⟩ (.slice none 0 0)).setP i { incPr p with phase := 11 })) ∧ ChgT B [91, 69, 109] W w') ?_).mono ?_
      · have := meet_grow h1 hB1 hp1 h9 h.at' h.vN (by show (L.hist v).length ≤ _; omega) draw (by show 0 ≤ p.wide; omega) (by show p.wide ≤ _; omega)
        rw [show (L.setP i (incPr p)).c.width = c.width from by rw [show (L.setP i (incPr p)).c = c from h.rel.cL]] at this
        refine this.mono ?_
        rintro e w' ⟨e0, x, b, d⟩
        refine ⟨e0, 11, phase_at b (by simpa using h.hi) (by rw [inc_pb h.hi]; exact hpb), rfl, ⟨x, b⟩, (hc1.mono (Nat.le_refl _) (by simp)).trans (d.mono (Nat.le_refl _) (by simp))⟩
      · rintro e w' ⟨ph, e0, rfl, b, d⟩
        exact ⟨e0, b, d⟩
  · have ez : shrinkW (toPP p) = clip c.width (p.wide / 2) := by
      unfold shrinkW clip
      show (if p.wide < 2 then 1 else p.wide / 2) = _
      split <;> split <;> split <;> omega
    have hz : 1 ≤ clip c.width (p.wide / 2) ∧ clip c.width (p.wide / 2) ≤ c.width := by unfold clip; split <;> split <;> omega
    refine ⟨11, fun _ => P.foc v { n with width := clip c.width (p.wide / 2) } i (toPP { incPr p with phase := 11 }), fun x => ((L.setP i (incPr p)).hap v x ⟨5, clip c.width (p.wide / 2), 0, []⟩ (.slice none 0 0)).setP i { incPr p with phase := 11 }, fun x _ => hfoc _ x hz.1 hz.2, fun _ => rfl, fun _ => rfl, fun x => by rw [h.lat draw, h.lget]; simp only; rw [if_neg (show ¬ p.phase = 8 by omega), if_neg (show ¬ p.phase = 9 by omega), if_pos h10, h.rel.cL]; exact ((Same.refl _).hap _ _ _ _ _ _).setP _ _, ?_, ?_⟩
    · refine h.prog draw (fun _ => { n with width := clip c.width (p.wide / 2) }) (toPP { incPr p with phase := 11 }) ?_
      intro W g _ _ W' hb hfp _
      refine (pstep_slot hfp h.at' hphs draw (R := fun w' => PF W B P v i g w' { n with width := clip c.width (p.wide / 2) } (toPP { incPr p with phase := 11 })) (fun W2 hb2 => ?_)).mono fun e w' ⟨a, b⟩ => ⟨a, .slice none 0 0, b⟩
      rw [← ez]
      exact atSlot_shrink (hfp.below hb2) h.at' (k := k) hs hk h10 draw (by show 0 ≤ p.wide; omega) (by show p.wide ≤ _; omega)
    · intro W hr hB
      obtain ⟨pb, hp, h1, hp1, hc1, hB1, hpb⟩ := h.ref hr hB
      refine (rStep_meeting hr hp (by omega) draw (R := fun ph w' => ph = 11 ∧ (∃ x : Value, RefRep w' B (((L.setP i (incPr p)).hap v x ⟨5, clip c.width (p.wide / 2), 0, []⟩ (.slice none 0 0)).setP i { incPr p with phase := 11 })) ∧ ChgT B [91, 69, 109] W w') ?_).mono ?_
      · have := meet_shrink h1 hB1 hp1 h10 h.at' h.vN (by show (L.hist v).length ≤ _; omega) draw (by show 0 ≤ p.wide; omega) (by show p.wide ≤ _; omega)
        rw [show (L.setP i (incPr p)).c.width = c.width from by rw [show (L.setP i (incPr p)).c = c from h.rel.cL]] at this
        refine this.mono ?_
        rintro e w' ⟨e0, x, b, d⟩
        refine ⟨e0, 11, phase_at b (by simpa using h.hi) (by rw [inc_pb h.hi]; exact hpb), rfl, ⟨x, b⟩, (hc1.mono (Nat.le_refl _) (by simp)).trans (d.mono (Nat.le_refl _) (by simp))⟩
      · rintro e w' ⟨ph, e0, rfl, b, d⟩
        exact ⟨e0, b, d⟩
end

theorem roomy_same {c : Conf} {v : Nat} {l : Hist} {its : List (Int × Int)} (h : ItemsRel c l its) (t : Int) : roomyP its t (roomOf c v) = roomyH c v l t := by
  unfold roomyP roomyH
  by_cases hlt : t < roomOf c v
  · rw [decide_eq_true hlt, decide_eq_true (by omega : t - roomOf c v < 0)]
    simp
  · rw [decide_eq_false hlt, decide_eq_false (by omega : ¬ t - roomOf c v < 0)]
    obtain ⟨k, hk⟩ := Int.eq_ofNat_of_zero_le (by omega : 0 ≤ t - roomOf c v)
    rw [hk, h.tk k, Int.toNat_natCast]
    by_cases hl : k < its.length
    · rw [decide_eq_true (by omega : (k : Int) < (its.length : Int))]
      simp
    · have : its.getD k (0, 0) = (0, 0) := by simp [List.getD_eq_getElem?_getD, List.getElem?_eq_none (by omega : its.length ≤ k)]
      rw [this]
      simp

section
variable {c : Conf} {B : Nat} {L : Lay} {P : PLay} {i v : Nat} {p : Pr} {n : PN}

/-- A step at a leaf. -/
theorem both_leaf (h : Here c L P i v p n) (_ck : CK c L P) (draw : Int) (hph : p.phase = 12 ∨ p.phase = 13 ∨ p.phase = 14) (ph : Int) (FN : Value → PN) (Q : PP) (hQ : Q.phase = ph) (FL : Value → Lay) (htb : ∀ x, (FL x).tb = L.tb)
    (hrel : ∀ x y, CRel c (FL x) (P.foc v (FN y) i Q)) (hls : ∀ x, Same (lstep L i draw) (FL x))
    (hprog : ∀ W g W', PF W B P v i g W' n (toPP p) → B ≤ W'.heap.size → Calls Tryz.prog 70 #[.pointer (some ⟨P.tb, 0, none⟩), .pointer (some ⟨g, i * 11, none⟩), .pointer (some ⟨P.tb, 8 + v * 21, none⟩)] W' fun e w' => e = .returned (.tuple #[]) ∧ ∃ y, PF W B P v i g w' (FN y) Q)
    (href : ∀ W1 pb, RefRep W1 B (L.setP i (incPr p)) → B ≤ W1.heap.size → ProcAt W1 (L.setP i (incPr p)) i pb (incPr p) → (L.procs[i]'h.hi).1 = pb → Calls Tryz.prog 59 #[.pointer (some ⟨L.tb, 0, none⟩), .pointer (some ⟨pb, 0, none⟩)] W1 fun e w' => e = .returned (.tuple #[]) ∧ w'.cell? ⟨pb, 3, none⟩ = some (I ph) ∧ (∃ x, RefRep w' B (FL x)) ∧ ChgT B [91, 69, 109] W1 w') : BothV c B L P i draw := by
  subst hQ
  refine ⟨Q.phase, fun y => P.foc v (FN y) i Q, FL, hrel, fun _ => rfl, htb, hls, ?_, ?_⟩
  · refine h.prog draw FN Q ?_
    intro W g _ hB W' hb hf hB'
    exact (pstep_leaf hf h.at' hph draw (R := fun w' => ∃ y, PF W B P v i g w' (FN y) Q) (fun W2 hb2 => hprog W g W2 (hf.below hb2) (Nat.le_trans hB' hb2.size)))
  · intro W hr hB
    obtain ⟨pb, hp, h1, hp1, hc, hB1, hpb⟩ := h.ref hr hB
    refine (rStep_leaf hr hp hph draw (R := fun ph w' => ph = Q.phase ∧ (∃ x, RefRep w' B (FL x)) ∧ ChgT B [91, 69, 109] W w') ?_).mono ?_
    · refine (href _ pb h1 hB1 hp1 hpb).mono ?_
      rintro e w' ⟨e0, e1, b, d⟩
      exact ⟨e0, _, e1, rfl, b, (hc.mono (Nat.le_refl _) (by simp)).trans d⟩
    · rintro e w' ⟨ph, e0, rfl, b, d⟩
      exact ⟨e0, b, d⟩

theorem both_ticket (h : Here c L P i v p n) (ck : CK c L P) (draw : Int) (hph : p.phase = 12) : BothV c B L P i draw := by
  have hf := h.isLeaf (by omega) (by omega)
  obtain ⟨_, b2, b3, b4⟩ := h.nr.leaf hf
  have hpu := h.puts9
  have hge := h.gets9
  have hll := h.rel.hlen v h.vN
  have hfn := h.rel.fn v h.vN
  have hm6 := manyH_le 6 (-1) (L.hist v)
  have hv := h.v32
  have hk := h.q.kind
  have hisz := h.isz
  have hk3 := h.kind3 ck.ci (by omega) (by omega)
  have hkk : p.kind = 0 ∨ p.kind = 1 ∨ p.kind = 2 := by omega
  rcases hkk with k0 | k1 | k2
  · have eQ : ({ toPP p with val := rank v + ((2 ^ Nat.log2 v : Nat) : Int) * n.puts, phase := 19 } : PP) = toPP { incPr p with val := rank v + putsH ((L.setP i (incPr p)).hist v) * 2 ^ Nat.log2 v, phase := 19 } := by
      have : (rank v : Int) + ((2 ^ Nat.log2 v : Nat) : Int) * n.puts = rank v + putsH ((L.setP i (incPr p)).hist v) * 2 ^ Nat.log2 v := by
        rw [b2, show putsH ((L.setP i (incPr p)).hist v) = putsH (L.hist v) from rfl, Int.mul_comm]
        simp
      rw [this]
      rfl
    refine both_leaf h ck draw (by omega) 19 (fun _ => { n with puts := n.puts + 1 }) (toPP { incPr p with val := rank v + putsH ((L.setP i (incPr p)).hist v) * 2 ^ Nat.log2 v, phase := 19 }) rfl (fun x => ((L.setP i (incPr p)).hap v x ⟨6, 0, 0, []⟩ (.slice none 0 0)).setP i { incPr p with val := rank v + putsH ((L.setP i (incPr p)).hist v) * 2 ^ Nat.log2 v, phase := 19 }) (fun _ => rfl) (fun x _ => h.inc.cinc12 (h.cinc ck) hph k0 x _) (fun x => by rw [h.lat draw, h.lget]; simp only; rw [if_neg (show ¬ p.phase = 8 by omega), if_neg (show ¬ p.phase = 9 by omega), if_neg (show ¬ p.phase = 10 by omega), if_neg (show ¬ p.phase = 11 by omega), if_pos hph, if_pos k0]; exact ((Same.refl _).hap _ _ _ _ _ _).setP _ _) ?_ ?_
    · intro W g W' hfp _
      rw [← eQ]
      exact (atLeaf_ticket hfp hph (R := fun w' => ∃ _y : Value, PF W B P v i g w' { n with puts := n.puts + 1 } { toPP p with val := rank v + ((2 ^ Nat.log2 v : Nat) : Int) * n.puts, phase := 19 }) (fun W2 hb2 => (ticket_inc (hfp.below hb2) k0 h.at' (by omega) (by omega)).mono fun e w' ⟨a, b⟩ => ⟨a, .slice none 0 0, b⟩))
    · intro W1 pb h1 hB1 hp1 hpb
      refine (leaf_inc h1 hB1 hp1 hph h.at' (by omega) h.vN (by show (L.hist v).length ≤ _; omega) hfn.1 (by show (fromH (L.hist v)).1.n ≤ _; omega) (by show manyH 6 (-1) (L.hist v) ≤ _; omega) k0).mono ?_
      rintro e w' ⟨e0, x, b, d⟩
      exact ⟨e0, phase_at b (by simpa using h.hi) (by rw [inc_pb h.hi]; exact hpb), ⟨x, b⟩, d⟩
  · have eQ : ({ toPP p with ticket := n.puts, phase := 13 } : PP) = toPP { incPr p with ticket := putsH ((L.setP i (incPr p)).hist v), phase := 13 } := by rw [b2]; rfl
    refine both_leaf h ck draw (by omega) 13 (fun y => { n with puts := n.puts + 1, iv := y, items := n.items ++ [(0, 0)] }) (toPP { incPr p with ticket := putsH ((L.setP i (incPr p)).hist v), phase := 13 }) rfl (fun x => ((L.setP i (incPr p)).hap v x ⟨6, 0, 0, []⟩ (.slice none 0 0)).setP i { incPr p with ticket := putsH ((L.setP i (incPr p)).hist v), phase := 13 }) (fun _ => rfl) (fun x y => h.inc.cput12 (h.cinc ck) hph k1 x y) (fun x => by rw [h.lat draw, h.lget]; simp only; rw [if_neg (show ¬ p.phase = 8 by omega), if_neg (show ¬ p.phase = 9 by omega), if_neg (show ¬ p.phase = 10 by omega), if_neg (show ¬ p.phase = 11 by omega), if_pos hph, if_neg (show ¬ p.kind = 0 by omega), if_pos k1]; exact ((Same.refl _).hap _ _ _ _ _ _).setP _ _) ?_ ?_
    · intro W g W' hfp hB'
      rw [← eQ]
      exact (atLeaf_ticket hfp hph (R := fun w' => ∃ y : Value, PF W B P v i g w' { n with puts := n.puts + 1, iv := y, items := n.items ++ [(0, 0)] } { toPP p with ticket := n.puts, phase := 13 }) (fun W2 hb2 => ticket_put (hfp.below hb2) (Nat.le_trans hB' hb2.size) k1 (by omega) (by omega) (by omega)))
    · intro W1 pb h1 hB1 hp1 hpb
      refine (leaf_put h1 hB1 hp1 hph h.at' h.vN (by show (L.hist v).length ≤ _; omega) hfn.1 (by show (fromH (L.hist v)).1.n ≤ _; omega) (by show manyH 6 (-1) (L.hist v) ≤ _; omega) k1).mono ?_
      rintro e w' ⟨e0, x, b, d⟩
      exact ⟨e0, phase_at b (by simpa using h.hi) (by rw [inc_pb h.hi]; exact hpb), ⟨x, b⟩, d⟩
  · have eQ : ({ toPP p with ticket := n.gets, phase := 14 } : PP) = toPP { incPr p with ticket := manyH 7 (-1) ((L.setP i (incPr p)).hist v), phase := 14 } := by rw [b3]; rfl
    refine both_leaf h ck draw (by omega) 14 (fun _ => { n with gets := n.gets + 1 }) (toPP { incPr p with ticket := manyH 7 (-1) ((L.setP i (incPr p)).hist v), phase := 14 }) rfl (fun x => ((L.setP i (incPr p)).hap v x ⟨7, 0, 0, []⟩ (.slice none 0 0)).setP i { incPr p with ticket := manyH 7 (-1) ((L.setP i (incPr p)).hist v), phase := 14 }) (fun _ => rfl) (fun x _ => h.inc.cget12 (h.cinc ck) hph k2 x) (fun x => by rw [h.lat draw, h.lget]; simp only; rw [if_neg (show ¬ p.phase = 8 by omega), if_neg (show ¬ p.phase = 9 by omega), if_neg (show ¬ p.phase = 10 by omega), if_neg (show ¬ p.phase = 11 by omega), if_pos hph, if_neg (show ¬ p.kind = 0 by omega), if_neg (show ¬ p.kind = 1 by omega)]; exact ((Same.refl _).hap _ _ _ _ _ _).setP _ _) ?_ ?_
    · intro W g W' hfp _
      rw [← eQ]
      exact (atLeaf_ticket hfp hph (R := fun w' => ∃ _y : Value, PF W B P v i g w' { n with gets := n.gets + 1 } { toPP p with ticket := n.gets, phase := 14 }) (fun W2 hb2 => (ticket_get (hfp.below hb2) k2 (by omega) (by omega)).mono fun e w' ⟨a, b⟩ => ⟨a, .slice none 0 0, b⟩))
    · intro W1 pb h1 hB1 hp1 hpb
      refine (leaf_get h1 hB1 hp1 hph h.at' h.vN (by show (L.hist v).length ≤ _; omega) k2).mono ?_
      rintro e w' ⟨e0, x, b, d⟩
      exact ⟨e0, phase_at b (by simpa using h.hi) (by rw [inc_pb h.hi]; exact hpb), ⟨x, b⟩, d⟩

theorem Here.deep (h : Here c L P i v p n) : (Nat.log2 v : Int) ≤ c.depth := by
  have hc := h.rel.confs
  have hv := h.vN
  rw [h.rel.len] at hv
  have := (Nat.log2_lt (by have := h.v1; omega)).2 hv
  omega

theorem both_store (h : Here c L P i v p n) (ck : CK c L P) (draw : Int) (hph : p.phase = 13) : BothV c B L P i draw := by
  have hf := h.isLeaf (by omega) (by omega)
  obtain ⟨_, b2, b3, b4⟩ := h.nr.leaf hf
  have hll := h.rel.hlen v h.vN
  have hv := h.v32
  have hc := h.rel.confs
  have hdp := h.deep
  have hisz := h.isz
  obtain ⟨t0, t9, _⟩ := h.q.tick
  obtain ⟨t, ht⟩ := Int.eq_ofNat_of_zero_le t0
  have htl := (h.store13 hph (.slice none 0 0) t ht).1
  have hro : 0 ≤ roomOf c v ∧ roomOf c v ≤ 1000 := by
    unfold roomOf
    have e : c.depth.toNat - Nat.log2 v ≤ 4 := by omega
    generalize c.depth.toNat - Nat.log2 v = k at *
    have : k = 0 ∨ k = 1 ∨ k = 2 ∨ k = 3 ∨ k = 4 := by omega
    rcases this with rfl | rfl | rfl | rfl | rfl <;> omega
  have hrs := roomy_same (v := v) b4 (t : Int)
  have cP : P.c = c := h.rel.cP
  have cL : (L.setP i (incPr p)).c = c := h.rel.cL
  cases hr : roomyH c v (L.hist v) (t : Int) with
  | true =>
    rw [hr] at hrs
    refine both_leaf h ck draw (by omega) 19 (fun _ => { n with items := n.items.set t (1, p.oval) }) (toPP { incPr p with phase := 19 }) rfl (fun x => ((L.setP i (incPr p)).hap v x ⟨8, (incPr p).ticket, (incPr p).oval, []⟩ (.slice none 0 0)).setP i { incPr p with phase := 19 }) (fun _ => rfl) (fun x _ => h.inc.cstore13 (h.cinc ck) hph x t ht) (fun x => by rw [h.lat draw, h.lget]; simp only; rw [if_neg (show ¬ p.phase = 8 by omega), if_neg (show ¬ p.phase = 9 by omega), if_neg (show ¬ p.phase = 10 by omega), if_neg (show ¬ p.phase = 11 by omega), if_neg (show ¬ p.phase = 12 by omega), if_pos hph, if_pos (show roomyH L.c v (L.hist v) p.ticket = true by rw [h.rel.cL, ht]; exact hr)]; exact ((Same.refl _).hap _ _ _ _ _ _).setP _ _) ?_ ?_
    · intro W g W' hfp _
      refine atLeaf_store hfp h.at' (by rw [cP]; omega) (by rw [cP]; omega) (by rw [cP]; omega) (by rw [cP]; omega) (by rw [cP]; exact hdp) hph (R := fun w' => ∃ _y : Value, PF W B P v i g w' { n with items := n.items.set t (1, p.oval) } (toPP { incPr p with phase := 19 })) (fun W2 hb2 => ?_)
      rw [cP]
      exact (store_yes (hfp.below hb2) t ht htl (by omega) (roomOf c v) hro.1 hro.2 hrs).mono fun e w' ⟨a, b⟩ => ⟨a, .slice none 0 0, b⟩
    · intro W1 pb h1 hB1 hp1 hpb
      refine (leaf_store_yes h1 hB1 hp1 hph h.at' (by omega) h.vN (by show (L.hist v).length ≤ _; omega) (by rw [cL]; omega) (by rw [cL]; omega) (by rw [cL]; omega) (by rw [cL]; omega) (by rw [cL]; exact hdp) t0 (by show p.ticket ≤ _; omega) ?_).mono ?_
      · rw [cL]
        show roomyH c v (L.hist v) p.ticket = true
        rw [ht]; exact hr
      · rintro e w' ⟨e0, x, b, d⟩
        exact ⟨e0, phase_at b (by simpa using h.hi) (by rw [inc_pb h.hi]; exact hpb), ⟨x, b⟩, d⟩
  | false =>
    rw [hr] at hrs
    refine both_leaf h ck draw (by omega) 13 (fun _ => n) (toPP p) hph (fun _ => L.setP i (incPr p)) (fun _ => rfl) (fun _ _ => ?_) (fun _ => by rw [h.lat draw, h.lget]; simp only; rw [if_neg (show ¬ p.phase = 8 by omega), if_neg (show ¬ p.phase = 9 by omega), if_neg (show ¬ p.phase = 10 by omega), if_neg (show ¬ p.phase = 11 by omega), if_neg (show ¬ p.phase = 12 by omega), if_pos hph, if_neg (show ¬ roomyH L.c v (L.hist v) p.ticket = true by rw [h.rel.cL, ht, hr]; simp)]; exact Same.refl _) ?_ ?_
    · have := h.foc_self p.steps
      have e : P.foc v n i (toPP p) = P := this
      rw [e]
      exact ⟨h.inc.rel, h.cinc ck⟩
    · intro W g W' hfp _
      refine atLeaf_store hfp h.at' (by rw [cP]; omega) (by rw [cP]; omega) (by rw [cP]; omega) (by rw [cP]; omega) (by rw [cP]; exact hdp) hph (R := fun w' => ∃ _y : Value, PF W B P v i g w' n (toPP p)) (fun W2 hb2 => ?_)
      rw [cP]
      exact (store_no (hfp.below hb2) t ht htl (by omega) (roomOf c v) hro.1 hro.2 hrs).mono fun e w' ⟨a, b⟩ => ⟨a, .slice none 0 0, b⟩
    · intro W1 pb h1 hB1 hp1 hpb
      refine (leaf_store_no h1 hp1 hph h.at' (by omega) h.vN (by rw [cL]; omega) (by rw [cL]; omega) (by rw [cL]; omega) (by rw [cL]; omega) (by rw [cL]; exact hdp) t0 (by show p.ticket ≤ _; omega) ?_).mono ?_
      · rw [cL]
        show roomyH c v (L.hist v) p.ticket = false
        rw [ht]; exact hr
      · rintro e w' ⟨e0, b⟩
        refine ⟨e0, ?_, ⟨.slice none 0 0, h1.below b⟩, ChgT.of_below b⟩
        have := phase_at (h1.below b) h.hi hpb
        rw [this]
        exact congrArg (fun z => some (I z)) hph

theorem both_fetch (h : Here c L P i v p n) (ck : CK c L P) (draw : Int) (hph : p.phase = 14) : BothV c B L P i draw := by
  have hf := h.isLeaf (by omega) (by omega)
  obtain ⟨_, b2, b3, b4⟩ := h.nr.leaf hf
  have hll := h.rel.hlen v h.vN
  obtain ⟨t0, t9, _⟩ := h.q.tick
  obtain ⟨t, ht⟩ := Int.eq_ofNat_of_zero_le t0
  have hit := b4.it t
  by_cases h1 : (n.items.getD t (0, 0)).1 = 1
  · have htl : t < n.items.length := by
      by_cases e : t < n.items.length
      · exact e
      · have : n.items.getD t (0, 0) = (0, 0) := by simp [List.getD_eq_getElem?_getD, List.getElem?_eq_none (by omega : n.items.length ≤ t)]
        rw [this] at h1
        simp at h1
    have hg : n.items.getD t (0, 0) = n.items[t] := by simp [List.getD_eq_getElem?_getD, List.getElem?_eq_getElem htl]
    rw [if_pos h1, hg] at hit
    rw [hg] at h1
    refine both_leaf h ck draw (by omega) 19 (fun _ => { n with items := n.items.set t (2, 0) }) (toPP { incPr p with val := (n.items[t]).2, phase := 19 }) rfl (fun x => ((L.setP i (incPr p)).hap v x ⟨9, (incPr p).ticket, 0, []⟩ (.slice none 0 0)).setP i { incPr p with val := (n.items[t]).2, phase := 19 }) (fun _ => rfl) (fun x _ => h.inc.cfetch14 (h.cinc ck) hph x t ht htl h1) (fun x => by rw [h.lat draw, h.lget]; simp only; rw [if_neg (show ¬ p.phase = 8 by omega), if_neg (show ¬ p.phase = 9 by omega), if_neg (show ¬ p.phase = 10 by omega), if_neg (show ¬ p.phase = 11 by omega), if_neg (show ¬ p.phase = 12 by omega), if_neg (show ¬ p.phase = 13 by omega), if_pos hph, show itemH (L.hist v) p.ticket = some (n.items[t]).2 from by rw [ht]; exact hit]; exact ((Same.refl _).hap _ _ _ _ _ _).setP _ _) ?_ ?_
    · intro W g W' hfp _
      exact (atLeaf_fetch hfp hph (R := fun w' => ∃ _y : Value, PF W B P v i g w' { n with items := n.items.set t (2, 0) } (toPP { incPr p with val := (n.items[t]).2, phase := 19 })) (fun W2 hb2 => (fetch_yes (hfp.below hb2) t ht htl h1).mono fun e w' ⟨a, b⟩ => ⟨a, .slice none 0 0, b⟩))
    · intro W1 pb r1 hB1 hp1 hpb
      refine (leaf_fetch_yes r1 hB1 hp1 hph h.at' h.vN (by show (L.hist v).length ≤ _; omega) (n.items[t]).2 ?_).mono ?_
      · show itemH (L.hist v) p.ticket = _
        rw [ht]; exact hit
      · rintro e w' ⟨e0, x, b, d⟩
        exact ⟨e0, phase_at b (by simpa using h.hi) (by rw [inc_pb h.hi]; exact hpb), ⟨x, b⟩, d⟩
  · rw [if_neg h1] at hit
    refine both_leaf h ck draw (by omega) 14 (fun _ => n) (toPP p) hph (fun _ => L.setP i (incPr p)) (fun _ => rfl) (fun _ _ => ?_) (fun _ => by rw [h.lat draw, h.lget]; simp only; rw [if_neg (show ¬ p.phase = 8 by omega), if_neg (show ¬ p.phase = 9 by omega), if_neg (show ¬ p.phase = 10 by omega), if_neg (show ¬ p.phase = 11 by omega), if_neg (show ¬ p.phase = 12 by omega), if_neg (show ¬ p.phase = 13 by omega), if_pos hph, show itemH (L.hist v) p.ticket = none from by rw [ht]; exact hit]; exact Same.refl _) ?_ ?_
    · have := h.foc_self p.steps
      have e : P.foc v n i (toPP p) = P := this
      rw [e]
      exact ⟨h.inc.rel, h.cinc ck⟩
    · intro W g W' hfp _
      exact (atLeaf_fetch hfp hph (R := fun w' => ∃ _y : Value, PF W B P v i g w' n (toPP p)) (fun W2 hb2 => (fetch_no (hfp.below hb2) t ht h1).mono fun e w' ⟨a, b⟩ => ⟨a, .slice none 0 0, b⟩))
    · intro W1 pb r1 hB1 hp1 hpb
      refine (leaf_fetch_no r1 hp1 hph h.at' h.vN ?_).mono ?_
      · show itemH (L.hist v) p.ticket = _
        rw [ht]; exact hit
      · rintro e w' ⟨e0, b⟩
        refine ⟨e0, ?_, ⟨.slice none 0 0, r1.below b⟩, ChgT.of_below b⟩
        have := phase_at (r1.below b) h.hi hpb
        rw [this]
        exact congrArg (fun z => some (I z)) hph

end

section
variable {w : World} {B : Nat} {L : PLay} {v i g : Nat} {W : World} {n : PN} {q : PP}

set_option maxHeartbeats 4000000 in
theorem pStep_ok2 (h : PF w B L v i g W n q) (hph : q.phase ≠ 20) (draw : Int) {R : PLay → PN → PP → Prop}
    (hc : ∀ W', Below W.heap.size W W' → Calls Tryz.prog 42 #[.pointer (some ⟨L.tb, 0, none⟩), I i, I draw] W' fun e w' => e = .returned (.tuple #[]) ∧ ∃ L1 n' q', L1.tb = L.tb ∧ L1.procs.length = L.procs.length ∧ PF w B L1 v i g w' n' q' ∧ R L1 n' q') :
    Calls Tryz.prog 22 #[.pointer (some ⟨L.tb, 0, none⟩), I i, I draw] W fun e w' => ∃ L1 n' q', e = .returned (.tuple #[I q'.phase, I 0]) ∧ PF w B L1 v i g w' n' q' ∧ R L1 n' q' := by
  obtain ⟨cap, c3, c4, c7, p1, p2, p3, p4, hi, hv32, fz, fn, hne, lN, lQ⟩ := h.facts
  have b1 : (q.phase == 20) = false := by simp [hph]
  have hi0 : decide ((i : Int) < 0) = false := by simp
  have HF : Hid (∀ w' L1 n' q', L1.tb = L.tb → L1.procs.length = L.procs.length → PF w B L1 v i g w' n' q' → ∃ cap, w'.cell? ⟨g, i * 11 + 3, none⟩ = some (I q'.phase) ∧ w'.cell? ⟨L.tb, 680, none⟩ = some (.slice (some ⟨g, 0, none⟩) L.procs.length cap) ∧ L.procs.length ≤ cap ∧ L.procs.length ≤ 2 ^ 63 - 1 ∧ cap ≤ 2 ^ 63 - 1) := by
    intro w' L1 n' q' e1 e2 hf
    obtain ⟨cap', p1', p2', p3', p4'⟩ := hf.pv
    rw [e1, e2] at p1'
    rw [e2] at p2' p3'
    exact ⟨cap', hf.pcell 3 (by omega), p1', p2', p3', p4'⟩
  replace hc : Hid _ := hc
  generalize L.procs.length = np at *
  clear h hph
  go_enter Tryz.func22, Tryz.ntmps22
  go_wp2_with fail
  refine Calls.mono (hc.out _ (Below.refl _ _)) ?_
  rintro e w1 ⟨rfl, L1, n', q', ht, hl, hf, hR⟩
  obtain ⟨cap', e3, e680, e1, e2, e4⟩ := HF.out _ _ _ _ ht hl hf
  clear hc HF c3 c4 c7 p1 fz fn lN lQ ht hl
  replace hf : Hid _ := hf
  replace hR : Hid _ := hR
  go_wp2
  go_ret2
  exact ⟨L1, n', q', rfl, hf.out, hR.out⟩

/-- The nodes are written anew; the processes are as they were. -/
theorem PF.renew (h : PF w B L v i g W n q) {w' : World} {l : List PN} (hl : l.length = 32) (hr : PRep w' B { L.foc v n i q with nodes := l }) (hch : ChgT B [61] W w') : PF w B { L with nodes := l } v i g w' (l.getD v zeroPN) q := by
  have hv : v < l.length := by
    have := h.hv
    have h2 := h.rep.len
    have h3 : (L.foc v n i q).nodes.length = L.nodes.length := by simp
    omega
  refine ⟨?_, h.chg.trans (hch.mono (Nat.le_refl _) (by simp)), hv, h.hi, h.hg⟩
  have e : ({ L with nodes := l } : PLay).foc v (l.getD v zeroPN) i q = { L.foc v n i q with nodes := l } := by
    have : l.set v (l.getD v zeroPN) = l := by
      rw [List.getD_eq_getElem?_getD, List.getElem?_eq_getElem hv]
      exact List.set_getElem_self hv
    show ({ L with nodes := l.set v (l.getD v zeroPN), procs := L.procs.set i q } : PLay) = _
    rw [this]
  rw [e]
  exact hr
end

section
variable {c : Conf} {B : Nat} {L : Lay} {P : PLay} {i v : Nat} {p : Pr} {n : PN}

/-- A step at a target that writes, of the document's tree, this process alone. -/
theorem both_target (h : Here c L P i v p n) (draw : Int) (hph : p.phase = 15 ∨ p.phase = 16 ∨ p.phase = 17 ∨ p.phase = 18) (n' : PN) (p' : Pr)
    (hls : Same (lstep L i draw) ((L.setP i (incPr p)).setP i p')) (hrel : CRel c ((L.setP i (incPr p)).setP i p') (P.foc v n' i (toPP p')))
    (hprog : ∀ W g W', PF W B P v i g W' n (toPP p) → Calls Tryz.prog 71 #[.pointer (some ⟨P.tb, 0, none⟩), .pointer (some ⟨g, i * 11, none⟩), .pointer (some ⟨P.tb, 8 + v * 21, none⟩)] W' fun e w' => e = .returned (.tuple #[]) ∧ PF W B P v i g w' n' (toPP p'))
    (href : ∀ W1 pb, RefRep W1 B (L.setP i (incPr p)) → ProcAt W1 (L.setP i (incPr p)) i pb (incPr p) → Calls Tryz.prog 60 #[.pointer (some ⟨L.tb, 0, none⟩), .pointer (some ⟨pb, 0, none⟩)] W1 fun e w' => e = .returned (.tuple #[]) ∧ PutB W1 w' pb (prCells p') 109) : BothV c B L P i draw := by
  refine ⟨p'.phase, fun _ => P.foc v n' i (toPP p'), fun _ => (L.setP i (incPr p)).setP i p', fun _ _ => hrel, fun _ => rfl, fun _ => rfl, fun _ => hls, ?_, ?_⟩
  · refine h.prog draw (fun _ => n') (toPP p') ?_
    intro W g _ _ W' hb hf _
    refine (pstep_target hf h.at' hph draw (R := fun w' => PF W B P v i g w' n' (toPP p')) (fun W2 hb2 => hprog W g W2 (hf.below hb2))).mono fun e w' ⟨a, b⟩ => ⟨a, .slice none 0 0, b⟩
  · intro W hr hB
    obtain ⟨pb, hp, h1, hp1, hc, _, hpb⟩ := h.ref hr hB
    refine (rStep_change hr hp hph draw (R := fun ph w' => ph = p'.phase ∧ (∃ _x : Value, RefRep w' B ((L.setP i (incPr p)).setP i p')) ∧ ChgT B [91, 69, 109] W w') ?_).mono ?_
    · refine (href _ pb h1 hp1).mono ?_
      rintro e w' ⟨e0, hw⟩
      exact ⟨e0, putb_end h.hi hpb h1 hp1 hc hw⟩
    · rintro e w' ⟨ph, e0, rfl, b, d⟩
      exact ⟨e0, b, d⟩

theorem up_toPP (p : Pr) (x : Int) : toPP (upPr { incPr p with val := x }) = leavePP { toPP p with val := x } := rfl

theorem both_shut (h : Here c L P i v p n) (ck : CK c L P) (draw : Int) (hph : p.phase = 15) : BothV c B L P i draw := by
  have hs := h.incShut ck
  have hv := h.v32
  have hat : (incPr p).node = (v : Int) := h.at'
  have hin : n.inner = decide (formH (L.hist v) = 1) := by
    by_cases hf : formH (L.hist v) = 1
    · rw [(h.nr.inn hf).1]; simp [hf]
    · have hf2 : formH (L.hist v) = 2 := by have := h.nr.form; have := h.f3; omega
      rw [(h.nr.leaf hf2).1]; simp [hf]
  have hcd : (L.setP i (incPr p)).c.drain = c.drain := by rw [show (L.setP i (incPr p)).c = c from h.rel.cL]
  by_cases hno : n.shut = true ∨ n.inner ≠ decide (p.kind = 3)
  · have e : shutCh (L.setP i (incPr p)) v (incPr p) = upPr { incPr p with val := 2 } := by
      unfold shutCh
      rw [if_pos]
      rw [hat, hs]
      rcases hno with x | x
      · exact Or.inl x
      · exact Or.inr (by rw [hin] at x; exact x)
    refine both_target h draw (Or.inl hph) { n with shut := n.shut } (upPr { incPr p with val := 2 }) (h.lsm draw ⟨by omega, by omega, by omega, by omega, by omega, by omega, by omega, by omega⟩ (by unfold lmove; rw [if_neg (show ¬ p.phase = 0 by omega), if_neg (show ¬ p.phase = 1 by omega), if_neg (show ¬ p.phase = 2 by omega), if_neg (show ¬ p.phase = 3 by omega), if_neg (show ¬ p.phase = 4 by omega), if_neg (show ¬ p.phase = 5 by omega), if_neg (show ¬ p.phase = 6 by omega), if_neg (show ¬ p.phase = 7 by omega), if_pos hph, e])) (h.inc.cup (h.cinc ck) (by show 15 ≤ p.phase; omega) (by show p.phase ≤ 18; omega) n.shut 2 (Or.inl ⟨hph, rfl⟩)) ?_ ?_
    · intro W g W' hfp
      rw [up_toPP]
      exact atTarget_shut hfp hph (R := fun w' => PF W B P v i g w' n (leavePP { toPP p with val := 2 })) (fun W2 hb2 => shutGate_no (hfp.below hb2) (by show 0 ≤ p.node; rw [h.at']; omega) (by show p.node ≤ _; rw [h.at']; omega) _ hno)
    · intro W1 pb r1 hp1
      have := change_shut r1 hp1 hph hat (by omega) h.vN
      rw [e] at this
      exact this
  · have h1 : n.shut = false := by
      cases x : n.shut with
      | false => rfl
      | true => exact absurd (Or.inl x) hno
    have h2 : n.inner = decide (p.kind = 3) := by
      by_cases x : n.inner = decide (p.kind = 3)
      · exact x
      · exact absurd (Or.inr x) hno
    rw [h1] at hs
    have e : shutCh (L.setP i (incPr p)) v (incPr p) = { incPr p with pat := c.drain, phase := 16 } := by
      unfold shutCh
      rw [if_neg]
      · rw [hcd]
      · rw [hat, hs]
        rintro (x | x)
        · simp at x
        · exact x (by rw [hin] at h2; exact h2)
    refine both_target h draw (Or.inl hph) { n with shut := true } { incPr p with pat := c.drain, phase := 16 } (h.lsm draw ⟨by omega, by omega, by omega, by omega, by omega, by omega, by omega, by omega⟩ (by unfold lmove; rw [if_neg (show ¬ p.phase = 0 by omega), if_neg (show ¬ p.phase = 1 by omega), if_neg (show ¬ p.phase = 2 by omega), if_neg (show ¬ p.phase = 3 by omega), if_neg (show ¬ p.phase = 4 by omega), if_neg (show ¬ p.phase = 5 by omega), if_neg (show ¬ p.phase = 6 by omega), if_neg (show ¬ p.phase = 7 by omega), if_pos hph, e])) (h.inc.cshut (h.cinc ck) hph hs (by rw [hin] at h2; exact h2)) ?_ ?_
    · intro W g W' hfp
      refine atTarget_shut hfp hph (R := fun w' => PF W B P v i g w' { n with shut := true } (toPP { incPr p with pat := c.drain, phase := 16 })) (fun W2 hb2 => ?_)
      have := shutGate_yes (hfp.below hb2) P.c.drain h1 h2
      rw [h.rel.cP] at this ⊢
      exact this
    · intro W1 pb r1 hp1
      have := change_shut r1 hp1 hph hat (by omega) h.vN
      rw [e] at this
      exact this

theorem both_drain (h : Here c L P i v p n) (ck : CK c L P) (draw : Int) (hph : p.phase = 16) : BothV c B L P i draw := by
  have hat : (incPr p).node = (v : Int) := h.at'
  have hpt := h.q.pat
  have hins : n.inside = (insideL v (L.setP i (incPr p)).procs : Int) := h.inc.nr.inside h.f3
  have hpp : toPP (drainCh (L.setP i (incPr p)) v (incPr p)) = drainPP n (toPP p) := by
    unfold drainCh drainPP
    by_cases h0 : insideL v (L.setP i (incPr p)).procs = 0
    · rw [if_pos h0, if_pos (by rw [hins, h0]; rfl)]; rfl
    · have hn0 : ¬ n.inside = 0 := by rw [hins]; omega
      rw [if_neg h0, if_neg hn0]
      by_cases h1 : 0 < p.pat
      · rw [if_pos (show 0 < (incPr p).pat from h1), if_pos (show 0 < (toPP p).pat from h1)]; rfl
      · rw [if_neg (show ¬ 0 < (incPr p).pat from h1), if_neg (show ¬ 0 < (toPP p).pat from h1)]; rfl
  refine both_target h draw (Or.inr (Or.inl hph)) n (drainCh (L.setP i (incPr p)) v (incPr p)) (h.lsm draw ⟨by omega, by omega, by omega, by omega, by omega, by omega, by omega, by omega⟩ (by unfold lmove; rw [if_neg (show ¬ p.phase = 0 by omega), if_neg (show ¬ p.phase = 1 by omega), if_neg (show ¬ p.phase = 2 by omega), if_neg (show ¬ p.phase = 3 by omega), if_neg (show ¬ p.phase = 4 by omega), if_neg (show ¬ p.phase = 5 by omega), if_neg (show ¬ p.phase = 6 by omega), if_neg (show ¬ p.phase = 7 by omega), if_neg (show ¬ p.phase = 15 by omega), if_pos hph])) (h.inc.cdrain (h.cinc ck) hph) ?_ ?_
  · intro W g W' hfp
    rw [hpp]
    exact atTarget_drain hfp hph (R := fun w' => PF W B P v i g w' n (drainPP n (toPP p))) (fun W2 hb2 => drain_c (hfp.below hb2) (by show p.pat ≤ _; omega))
  · intro W1 pb r1 hp1
    exact change_drain r1 (h.inc.rel.node64) hp1 hph hat (by show p.pat ≤ _; omega)

theorem both_reopen (h : Here c L P i v p n) (ck : CK c L P) (draw : Int) (hph : p.phase = 18) : BothV c B L P i draw := by
  have hv := h.v32
  have hat : (incPr p).node = (v : Int) := h.at'
  refine both_target h draw (Or.inr (Or.inr (Or.inr hph))) { n with shut := false } (upPr { incPr p with val := 3 }) (h.lsm draw ⟨by omega, by omega, by omega, by omega, by omega, by omega, by omega, by omega⟩ (by unfold lmove; rw [if_neg (show ¬ p.phase = 0 by omega), if_neg (show ¬ p.phase = 1 by omega), if_neg (show ¬ p.phase = 2 by omega), if_neg (show ¬ p.phase = 3 by omega), if_neg (show ¬ p.phase = 4 by omega), if_neg (show ¬ p.phase = 5 by omega), if_neg (show ¬ p.phase = 6 by omega), if_neg (show ¬ p.phase = 7 by omega), if_neg (show ¬ p.phase = 15 by omega), if_neg (show ¬ p.phase = 16 by omega), if_pos hph])) (h.inc.cup (h.cinc ck) (by show 15 ≤ p.phase; omega) (by show p.phase ≤ 18; omega) false 3 (Or.inr ⟨by show 16 ≤ p.phase; omega, rfl⟩)) ?_ ?_
  · intro W g W' hfp
    rw [up_toPP]
    exact atTarget_reopen hfp hph (by show 0 ≤ p.node; rw [h.at']; omega) (by show p.node ≤ _; rw [h.at']; omega)
  · intro W1 pb r1 hp1
    have := change_reopen hp1 hph hat (by omega)
    exact this

theorem Here.toPP_at (h : Here c L P i v p n) : P.foc v n i (toPP p) = P := h.foc_self p.steps

theorem set_same (l : List PN) (v : Nat) (hv : v < l.length) (hs : (l.getD v zeroPN).shut = false) : l.set v { l.getD v zeroPN with shut := false } = l := by
  have e : ∀ x : PN, x.shut = false → ({ x with shut := false } : PN) = x := by
    intro x hx
    cases x
    simp only at hx
    subst hx
    rfl
  rw [e _ hs, List.getD_eq_getElem?_getD, List.getElem?_eq_getElem hv]
  exact List.set_getElem_self hv

/-- What the program's Change leaves, where it answers r. -/
theorem Here.progChange (h : Here c L P i v p n) (draw : Int) (hph : p.phase = 17) (r : Int) (FN : Value → Value → List PN) (hlen : ∀ x y, (FN x y).length = 32)
    (hc : ∀ W g W', PF W B P v i g W' n (toPP p) → B ≤ W'.heap.size → Calls Tryz.prog 107 #[.pointer (some ⟨P.tb, 0, none⟩), opV ⟨p.kind, p.oval, p.onode⟩] W' fun e w' => e = .returned (I r) ∧ (∃ x y, PRep w' B { P with nodes := FN x y }) ∧ ChgT B [61] W' w') :
    ProgStep B P i draw (upPr { incPr p with val := r }).phase (fun P' => ∃ x y, P' = { P with nodes := (FN x y).set v { (FN x y).getD v zeroPN with shut := false }, procs := P.procs.set i (toPP (upPr { incPr p with val := r })) }) := by
  have hself := h.toPP_at
  have main : ∀ W g, PF W B P v i g W n (toPP p) → B ≤ W.heap.size → ∀ W', Below W.heap.size W W' → Calls Tryz.prog 42 #[.pointer (some ⟨P.tb, 0, none⟩), I i, I draw] W' fun e w' => e = .returned (.tuple #[]) ∧ ∃ L1 n' q', L1.tb = P.tb ∧ L1.procs.length = P.procs.length ∧ PF W B L1 v i g w' n' q' ∧ ((∃ x y, L1 = { P with nodes := FN x y } ∧ n' = { (FN x y).getD v zeroPN with shut := false }) ∧ q' = leavePP { toPP p with val := r }) := by
    intro W g hf hB W' hb
    have hf' := hf.below hb
    refine (pstep_target hf' h.at' (Or.inr (Or.inr (Or.inl hph))) draw (R := fun w' => ∃ r1 L1 n1, L1.tb = P.tb ∧ PF W B L1 v i g w' { n1 with shut := false } (leavePP { toPP p with val := r1 }) ∧ (r1 = r ∧ ∃ x y, L1 = { P with nodes := FN x y } ∧ n1 = (FN x y).getD v zeroPN)) (fun W2 hb2 => ?_)).mono ?_
    · refine atTarget_change (hf'.below hb2) hph (by show 0 ≤ p.node; rw [h.at']; omega) (by show p.node ≤ _; rw [h.at']; have := h.v32; omega) (R := fun r1 L1 n1 => r1 = r ∧ ∃ x y, L1 = { P with nodes := FN x y } ∧ n1 = (FN x y).getD v zeroPN) (fun W3 hb3 => ?_)
      have hf3 := (hf'.below hb2).below hb3
      have hB3 : B ≤ W3.heap.size := Nat.le_trans (Nat.le_trans (Nat.le_trans hB hb.size) hb2.size) hb3.size
      refine (hc W g W3 hf3 hB3).mono ?_
      rintro e w' ⟨rfl, ⟨x, y, hr⟩, hch⟩
      have e1 : P.procs.set i (toPP p) = P.procs := congrArg PLay.procs hself
      have hr' : PRep w' B { P.foc v n i (toPP p) with nodes := FN x y } := by
        show PRep w' B { P with nodes := FN x y, procs := P.procs.set i (toPP p) }
        rw [e1]
        exact hr
      exact ⟨r, { P with nodes := FN x y }, (FN x y).getD v zeroPN, rfl, rfl, hf3.renew (hlen x y) hr' hch, rfl, x, y, rfl, rfl⟩
    · rintro e w' ⟨e0, r1, L1, n1, a1, a2, rfl, x, y, rfl, rfl⟩
      exact ⟨e0, { P with nodes := FN x y }, _, _, rfl, rfl, a2, ⟨x, y, rfl, rfl⟩, rfl⟩
  have fin : ∀ W w' g L1 n' q', PF W B L1 v i g w' n' q' → ((∃ x y, L1 = { P with nodes := FN x y } ∧ n' = { (FN x y).getD v zeroPN with shut := false }) ∧ q' = leavePP { toPP p with val := r }) → (∃ P', (∃ x y, P' = { P with nodes := (FN x y).set v { (FN x y).getD v zeroPN with shut := false }, procs := P.procs.set i (toPP (upPr { incPr p with val := r })) }) ∧ PRep w' B P') ∧ ChgT B [61, 96, 148] W w' := by
    rintro W w' g L1 n' q' hf ⟨⟨x, y, rfl, rfl⟩, rfl⟩
    exact ⟨⟨_, ⟨x, y, rfl⟩, hf.rep⟩, hf.chg⟩
  refine ⟨fun W hr hB => ?_, fun W hr hB => ?_, ?_⟩
  · obtain ⟨g, hf⟩ := h.pf hr
    refine (main W g hf hB W (Below.refl _ _)).mono ?_
    rintro e w' ⟨e0, L1, n', q', _, _, a, b⟩
    exact ⟨e0, fin W w' g L1 n' q' a b⟩
  · obtain ⟨g, hf⟩ := h.pf hr
    refine (pStep_ok2 hf (by show p.phase ≠ 20; exact h.live) draw (main W g hf hB)).mono ?_
    rintro e w' ⟨L1, n', q', e0, a, b⟩
    refine ⟨?_, fin W w' g L1 n' q' a b⟩
    rw [e0, b.2]
    rfl
  · rintro _ ⟨x, y, rfl⟩
    have hi : i < P.procs.length := by rw [h.rel.procs, List.length_map]; exact h.hi
    simp [List.getD_eq_getElem?_getD, hi, toPP]

theorem Here.refChange (h : Here c L P i v p n) (draw : Int) (hph : p.phase = 17) (r : Int) (F : Lay → Prop) (hF : ∀ L', F L' → L'.procs = ((L.setP i (incPr p)).setP i (upPr { incPr p with val := r })).procs)
    (hc : ∀ W1 pb, RefRep W1 B (L.setP i (incPr p)) → B ≤ W1.heap.size → ProcAt W1 (L.setP i (incPr p)) i pb (incPr p) → Calls Tryz.prog 60 #[.pointer (some ⟨L.tb, 0, none⟩), .pointer (some ⟨pb, 0, none⟩)] W1 fun e w' => e = .returned (.tuple #[]) ∧ (∃ L', F L' ∧ RefRep w' B L') ∧ ChgT B [91, 69, 109] W1 w') :
    RefStep B L i draw (upPr { incPr p with val := r }).phase F := by
  intro W hr hB
  obtain ⟨pb, hp, h1, hp1, hc1, hB1, hpb⟩ := h.ref hr hB
  refine (rStep_change hr hp (Or.inr (Or.inr (Or.inl hph))) draw (R := fun ph w' => ph = (upPr { incPr p with val := r }).phase ∧ (∃ L', F L' ∧ RefRep w' B L') ∧ ChgT B [91, 69, 109] W w') ?_).mono ?_
  · refine (hc _ pb h1 hB1 hp1).mono ?_
    rintro e w' ⟨e0, ⟨L', hL', hr'⟩, d⟩
    refine ⟨e0, _, ?_, rfl, ⟨L', hL', hr'⟩, (hc1.mono (Nat.le_refl _) (by simp)).trans d⟩
    have hi' : i < L'.procs.length := by rw [hF L' hL']; simpa using h.hi
    have := (hr'.pblk i hi').1
    have e1 : L'.procs[i] = (pb, upPr { incPr p with val := r }) := by
      have : L'.procs[i] = ((L.setP i (incPr p)).setP i (upPr { incPr p with val := r })).procs[i]'(by simpa using h.hi) := by simp only [hF L' hL']
      rw [this]
      simp only [List.getElem_set_self]
      have e := inc_pb (p := p) h.hi (by simpa using h.hi)
      simp only [List.getElem_set_self] at e
      congr 1
      rw [List.getD_eq_getElem?_getD, List.getElem?_eq_getElem (by simpa using h.hi)]
      simp only [Option.getD_some, List.getElem_set_self]
      rw [e, hpb]
    rw [e1] at this
    rw [(nb_facts this).1 3]
    rfl
  · rintro e w' ⟨ph, e0, rfl, b, d⟩
    exact ⟨e0, b, d⟩

theorem both_change (h : Here c L P i v p n) (ck : CK c L P) (draw : Int) (hph : p.phase = 17) : Both c B L P i draw := by
  have hv := h.v32
  have h1v := h.v1
  have hat : (incPr p).node = (v : Int) := h.at'
  have t := h.target17 ck hph
  have hk := t.kid
  have hl := h.rel.lenle
  have hc := h.rel.confs
  have hself := h.toPP_at
  have hlP := h.rel.plen
  have hkd : (L.setP i (incPr p)).c.kind = 0 ∨ (L.setP i (incPr p)).c.kind = 1 := by rw [show (L.setP i (incPr p)).c = c from h.rel.cL]; exact hc.1
  have hkP : P.c.kind = 0 ∨ P.c.kind = 1 := by rw [h.rel.cP]; exact hc.1
  have q0 : ∀ u, u < L.past.length → 0 ≤ (fromH (L.hist u)).1.n := fun u hu => (h.rel.fn u hu).1
  have q9 : ∀ u, u < L.past.length → putsH (L.hist u) ≤ 1000000 := by
    intro u hu
    have a1 := h.rel.fn u hu
    have a2 := h.rel.hlen u hu
    have a3 := manyH_le 6 (-1) (L.hist u)
    unfold putsH
    omega
  have ql : ∀ u, u < L.past.length → (L.hist u).length ≤ 1000000 := fun u hu => by have := h.rel.hlen u hu; omega
  have iszl : ∀ u, (hu : u < P.nodes.length) → 1 ≤ u → (P.nodes[u]).items.length ≤ 1000000 := by
    intro u hu h1
    have := h.rel.isz u h1 (by omega)
    rw [List.getD_eq_getElem?_getD, List.getElem?_eq_getElem hu] at this
    simp only [Option.getD_some] at this
    omega
  have gd : ∀ u, (hu : u < P.nodes.length) → P.nodes.getD u zeroPN = P.nodes[u] := fun u hu => by simp [List.getD_eq_getElem?_getD, List.getElem?_eq_getElem hu]
  have hon : p.onode = (v : Int) := t.on
  rcases t.k3 with k3 | k4
  · by_cases hno : formH (L.hist (2 * v)) = 1 ∨ formH (L.hist (2 * v + 1)) = 1
    · refine BothV.both (both_target h draw (Or.inr (Or.inr (Or.inl hph))) { n with shut := false } (upPr { incPr p with val := 4 }) (by rw [h.lat draw, h.lget]; simp only; rw [if_neg (show ¬ p.phase = 8 by omega), if_neg (show ¬ p.phase = 9 by omega), if_neg (show ¬ p.phase = 10 by omega), if_neg (show ¬ p.phase = 11 by omega), if_neg (show ¬ p.phase = 12 by omega), if_neg (show ¬ p.phase = 13 by omega), if_neg (show ¬ p.phase = 14 by omega), if_pos hph, if_neg (show ¬ p.kind = 4 by omega), if_pos hno]; exact Same.refl _) (h.inc.cup (h.cinc ck) (by show 15 ≤ p.phase; omega) (by show p.phase ≤ 18; omega) false 4 (Or.inr ⟨by show 16 ≤ p.phase; omega, rfl⟩)) ?_ ?_)
      · intro W g W' hfp
        rw [up_toPP]
        refine (atTarget_change hfp hph (by show 0 ≤ p.node; rw [h.at']; omega) (by show p.node ≤ _; rw [h.at']; omega) (R := fun r1 L1 n1 => r1 = 4 ∧ L1 = P ∧ n1 = n) (fun W3 hb3 => ?_)).mono ?_
        · have hf3 := hfp.below hb3
          have hr3 : PRep W3 B P := by have := hf3.rep; rw [hself] at this; exact this
          have h0' : 2 * v < P.nodes.length := by omega
          have h1' : 2 * v + 1 < P.nodes.length := by omega
          have hinn : (P.nodes[2 * v]).inner = true ∨ (P.nodes[2 * v + 1]).inner = true := by
            rw [← gd _ h0', ← gd _ h1']
            rcases hno with e | e
            · exact Or.inl ((h.rel.nodes (2 * v) (by omega) (by omega)).inn e).1
            · exact Or.inr ((h.rel.nodes (2 * v + 1) (by omega) hk).inn e).1
          have := pchange_not hr3 p.oval h1v (by omega) h0' h1' hinn
          show Calls Tryz.prog 107 #[.pointer (some ⟨P.tb, 0, none⟩), opV ⟨p.kind, p.oval, p.onode⟩] W3 _
          rw [k3, hon]
          refine this.mono ?_
          rintro e w' ⟨rfl, hb⟩
          exact ⟨4, P, n, rfl, rfl, hf3.below hb, rfl, rfl, rfl⟩
        · rintro e w' ⟨e0, r1, L1, n1, _, a, rfl, rfl, rfl⟩
          exact ⟨e0, a⟩
      · intro W1 pb r1 hp1
        have := change_not r1 hp1 hph k3 hat hk (by show L.past.length ≤ _; omega) hno
        exact this
    · have hi0 : formH (L.hist (2 * v)) ≠ 1 := fun e => hno (Or.inl e)
      have hi1 : formH (L.hist (2 * v + 1)) ≠ 1 := fun e => hno (Or.inr e)
      have hf : formH (L.hist v) = 1 := by rw [t.form, if_pos k3]
      obtain ⟨_, kk2, kk3⟩ := h.rel.kids v h1v h.vN hf
      have m0 := h.rel.nodes (2 * v) (by omega) (by omega)
      have m1 := h.rel.nodes (2 * v + 1) (by omega) hk
      have f0 : formH (L.hist (2 * v)) = 2 := by have := m0.form; omega
      have f1 : formH (L.hist (2 * v + 1)) = 2 := by have := m1.form; omega
      obtain ⟨a1, a2, a3, a4⟩ := m0.leaf f0
      obtain ⟨d1, d2, d3, d4⟩ := m1.leaf f1
      have pp0 := t.puts (2 * v) (by omega) f0
      have pp1 := t.puts (2 * v + 1) hk f1
      have h0' : 2 * v < P.nodes.length := by omega
      have h1' : 2 * v + 1 < P.nodes.length := by omega
      have hv' : v < P.nodes.length := by omega
      rw [gd _ h0'] at a1 a2
      rw [gd _ h1'] at d1 d2
      have hPc : ∀ W g W', PF W B P v i g W' n (toPP p) → B ≤ W'.heap.size → Calls Tryz.prog 107 #[.pointer (some ⟨P.tb, 0, none⟩), opV ⟨p.kind, p.oval, p.onode⟩] W' fun e w' => e = .returned (I 1) ∧ (∃ x y : Value, PRep w' B { P with nodes := (fun (z _ : Value) => ((P.nodes.set v (foldPN P v z)).set (2 * v) zeroPN).set (2 * v + 1) zeroPN) x y }) ∧ ChgT B [61] W' w' := by
        intro W g W' hfp hB'
        have hr3 : PRep W' B P := by have := hfp.rep; rw [hself] at this; exact this
        rw [k3, hon]
        refine (pchange_fold hr3 p.oval h1v (by omega) h0' h1' a1 d1 (fun W4 hb4 => pfold_c (hr3.below hb4) (Nat.le_trans hB' hb4.size) v h1v (by omega) hv' h0' h1' hkP (by rw [a2]; omega) (by rw [d2]; omega) (iszl _ h0' (by omega)) (iszl _ h1' (by omega)))).mono ?_
        rintro e w' ⟨rfl, ⟨z, hz⟩, hch⟩
        exact ⟨rfl, ⟨z, z, hz⟩, hch⟩
      have hP := h.progChange (B := B) draw hph 1 (fun z _ => ((P.nodes.set v (foldPN P v z)).set (2 * v) zeroPN).set (2 * v + 1) zeroPN) (fun _ _ => by simpa using hlP) hPc
      refine ⟨_, _, fun L' => ∃ x1 x2 x3 iv, L' = ((L.setP i (incPr p)).folded v x1 x2 x3 iv).setP i (upPr { incPr p with val := 1 }), ?_, ?_, ?_, ⟨⟨_, nilV, nilV, rfl⟩, ⟨_, nilV, nilV, nilV, nilV, rfl⟩, fun L' ⟨x1, x2, x3, iv, e⟩ => by rw [e]; rw [h.lat draw, h.lget]; simp only; rw [if_neg (show ¬ p.phase = 8 by omega), if_neg (show ¬ p.phase = 9 by omega), if_neg (show ¬ p.phase = 10 by omega), if_neg (show ¬ p.phase = 11 by omega), if_neg (show ¬ p.phase = 12 by omega), if_neg (show ¬ p.phase = 13 by omega), if_neg (show ¬ p.phase = 14 by omega), if_pos hph, if_neg (show ¬ p.kind = 4 by omega), if_neg hno]; exact ((((Same.refl _).hap _ _ _ _ _ _).hap _ _ _ _ _ _).hap _ _ _ _ _ _).setP _ _⟩, hP, h.refChange draw hph 1 _ ?_ ?_⟩
      · rintro L' P' ⟨x1, x2, x3, iv, rfl⟩ ⟨z, _, rfl⟩
        have := h.inc.cfold (h.cinc ck) hph k3 hi0 hi1 1 x1 x2 x3 iv z
        have e1 : (((P.nodes.set v (foldPN P v z)).set (2 * v) zeroPN).set (2 * v + 1) zeroPN).getD v zeroPN = foldPN P v z := by rw [getD_three _ _ _ _ _ h1v h1', if_pos rfl]
        have e2 : (foldPN P v z).shut = false := by unfold foldPN; split <;> rfl
        rw [set_same _ v (by simpa using hv') (by rw [e1]; exact e2)]
        exact this
      · rintro P' ⟨x, y, rfl⟩; rfl
      · rintro L' ⟨x1, x2, x3, iv, rfl⟩; rfl
      · rintro L' ⟨x1, x2, x3, iv, rfl⟩; rfl
      · intro W1 pb r1 hB1 hp1
        refine (change_fold r1 hB1 hp1 hph k3 hat h1v hk q0 q9 ql (by show L.past.length ≤ _; omega) hkd hi0 hi1).mono ?_
        rintro e w' ⟨e0, ⟨x1, x2, x3, iv, hr⟩, hch⟩
        exact ⟨e0, ⟨_, ⟨x1, x2, x3, iv, rfl⟩, hr⟩, hch⟩
  · have hf : formH (L.hist v) = 2 := by rw [t.form, if_neg (by omega)]
    obtain ⟨a1, a2, a3, a4⟩ := h.nr.leaf hf
    have pp := t.puts v h.vN hf
    have h0' : 2 * v < P.nodes.length := by omega
    have h1' : 2 * v + 1 < P.nodes.length := by omega
    have hv' : v < P.nodes.length := by omega
    have hen : P.nodes[v] = n := by rw [← gd _ hv']; exact h.en
    have hP := h.progChange (B := B) draw hph 1 (fun x y => ((P.nodes.set v (unfV P v (unf0 P v x) (unf1 P v y))).set (2 * v) (unf0 P v x)).set (2 * v + 1) (unf1 P v y)) (fun _ _ => by simpa using hlP) (fun W g W' hfp hB' => by
      have hr3 : PRep W' B P := by have := hfp.rep; rw [hself] at this; exact this
      rw [k4, hon]
      refine (pchange_unfold hr3 p.oval (fun W4 hb4 => punfold_c (hr3.below hb4) (Nat.le_trans hB' hb4.size) v h1v (by omega) hv' h0' h1' hkP (by rw [hen, a2]; omega) (iszl _ hv' h1v))).mono ?_
      rintro e w' ⟨rfl, ⟨x, y, hz⟩, hch⟩
      exact ⟨rfl, ⟨x, y, hz⟩, hch⟩)
    refine ⟨_, _, fun L' => ∃ x1 x2 x3 i1 i2, L' = ((L.setP i (incPr p)).unfolded v x1 x2 x3 i1 i2).setP i (upPr { incPr p with val := 1 }), ?_, ?_, ?_, ⟨⟨_, nilV, nilV, rfl⟩, ⟨_, nilV, nilV, nilV, nilV, nilV, rfl⟩, fun L' ⟨x1, x2, x3, i1, i2, e⟩ => by rw [e]; rw [h.lat draw, h.lget]; simp only; rw [if_neg (show ¬ p.phase = 8 by omega), if_neg (show ¬ p.phase = 9 by omega), if_neg (show ¬ p.phase = 10 by omega), if_neg (show ¬ p.phase = 11 by omega), if_neg (show ¬ p.phase = 12 by omega), if_neg (show ¬ p.phase = 13 by omega), if_neg (show ¬ p.phase = 14 by omega), if_pos hph, if_pos k4]; exact ((((Same.refl _).hap _ _ _ _ _ _).hap _ _ _ _ _ _).hap _ _ _ _ _ _).setP _ _⟩, hP, h.refChange draw hph 1 _ ?_ ?_⟩
    · rintro L' P' ⟨x1, x2, x3, i1, i2, rfl⟩ ⟨x, y, rfl⟩
      have := h.inc.cunfold (h.cinc ck) hph k4 1 x1 x2 x3 i1 i2 x y
      have e1 : (((P.nodes.set v (unfV P v (unf0 P v x) (unf1 P v y))).set (2 * v) (unf0 P v x)).set (2 * v + 1) (unf1 P v y)).getD v zeroPN = unfV P v (unf0 P v x) (unf1 P v y) := by rw [getD_three _ _ _ _ _ h1v h1', if_pos rfl]
      rw [set_same _ v (by simpa using hv') (by rw [e1]; rfl)]
      exact this
    · rintro P' ⟨x, y, rfl⟩; rfl
    · rintro L' ⟨x1, x2, x3, i1, i2, rfl⟩; rfl
    · rintro L' ⟨x1, x2, x3, i1, i2, rfl⟩; rfl
    · intro W1 pb r1 hB1 hp1
      refine (change_unfold r1 hB1 hp1 hph k4 hat h1v hk q0 q9 ql (by show L.past.length ≤ _; omega) hkd).mono ?_
      rintro e w' ⟨e0, ⟨x1, x2, x3, i1, i2, hr⟩, hch⟩
      exact ⟨e0, ⟨_, ⟨x1, x2, x3, i1, i2, rfl⟩, hr⟩, hch⟩

/-- Every phase. -/
theorem Here.both (h : Here c L P i v p n) (ck : CK c L P) (draw : Int) : Both c B L P i draw := by
  have hp := h.q.phase
  have hl := h.live
  have : p.phase = 0 ∨ p.phase = 1 ∨ p.phase = 2 ∨ p.phase = 3 ∨ p.phase = 4 ∨ p.phase = 5 ∨ p.phase = 6 ∨ p.phase = 7 ∨ p.phase = 8 ∨ (p.phase = 9 ∨ p.phase = 10) ∨ p.phase = 11 ∨ p.phase = 12 ∨ p.phase = 13 ∨ p.phase = 14 ∨ p.phase = 15 ∨ p.phase = 16 ∨ p.phase = 17 ∨ p.phase = 18 ∨ p.phase = 19 := by omega
  rcases this with e | e | e | e | e | e | e | e | e | e | e | e | e | e | e | e | e | e | e
  · exact (both_enter h ck draw e).both
  · exact (both_look h ck draw e).both
  · exact (both_back h ck draw e).both
  · exact (both_wide h ck draw e).both
  · exact (both_atSlot h ck draw e).both
  · exact (both_claim h ck draw e).both
  · exact (both_wait h ck draw e).both
  · exact (both_taken h ck draw e).both
  · exact (both_meet h ck draw e).both
  · exact (both_widen h ck draw e).both
  · exact (both_toggle h ck draw e).both
  · exact (both_ticket h ck draw e).both
  · exact (both_store h ck draw e).both
  · exact (both_fetch h ck draw e).both
  · exact (both_shut h ck draw e).both
  · exact (both_drain h ck draw e).both
  · exact both_change h ck draw e
  · exact (both_reopen h ck draw e).both
  · exact (both_leave h ck draw e).both
end

theorem totL_one : ∀ l : List (Value × Hist), (∀ v, (hv : v < l.length) → (l[v]).2.length ≤ 1) → totL l ≤ l.length
  | [], _ => by simp [totL]
  | y :: r, h => by
    have h0 := h 0 (by simp)
    simp only [List.getElem_cons_zero] at h0
    have := totL_one r fun v hv => by have := h (v + 1) (by simpa using hv); simpa using this
    simp only [totL, List.length_cons]
    omega

theorem newHist_form (s : Int) (v : Nat) : formH (newHist s v) = if (Nat.log2 v : Int) < s then 1 else if (Nat.log2 v : Int) = s then 2 else 3 := by
  unfold newHist
  split
  · simp [formH]
  · split <;> simp [formH]

theorem wrel_new {c : Conf} {L : Lay} {P : PLay} (hm : mayC c = true) (hl : NewLay c L) (hp : PNew c P) (hlen : P.nodes.length = 32) : WRel c L P := by
  have hc : (c.kind = 0 ∨ c.kind = 1) ∧ 0 ≤ c.depth ∧ c.depth ≤ 4 ∧ 0 ≤ c.start ∧ c.start ≤ c.depth ∧ 1 ≤ c.width ∧ c.width ≤ 4 ∧ 1 ≤ c.procs := by simp [mayC] at hm; omega
  obtain ⟨s, hs⟩ := Int.eq_ofNat_of_zero_le hc.2.2.2.1
  obtain ⟨d, hd⟩ := Int.eq_ofNat_of_zero_le hc.2.1
  have hN : L.past.length = 2 ^ (d + 1) := by rw [hl.len, hd]; rfl
  have hN32 : L.past.length ≤ 32 := by rw [hN]; exact Nat.le_trans (Nat.pow_le_pow_right (by omega) (by omega : d + 1 ≤ 5)) (by decide)
  have hN2 : 2 ≤ L.past.length := by rw [hN]; have : 2 ^ 1 ≤ 2 ^ (d + 1) := Nat.pow_le_pow_right (by omega) (by omega); omega
  have hss : c.start.toNat = s := by omega
  have hform : ∀ v, 1 ≤ v → v < L.past.length → formH (L.hist v) = if (Nat.log2 v : Int) < c.start then 1 else if (Nat.log2 v : Int) = c.start then 2 else 3 := fun v h1 h2 => by rw [hl.hist v h1 h2]; exact newHist_form _ _
  have hh1 : ∀ v, v < L.past.length → (L.hist v).length ≤ 1 := by
    intro v hv
    by_cases h0 : v = 0
    · subst h0; rw [hl.hist0]; simp
    · rw [hl.hist v (by omega) hv]
      unfold newHist
      split
      · simp
      · split <;> simp
  have hkid := fun v (h1 : 1 ≤ v) (h2 : v < 32) => log2_kid ⟨v, h2⟩ h1
  have hnode : ∀ v, 1 ≤ v → v < 32 → P.nodes.getD v zeroPN = if Nat.log2 v < s then innerPN else if Nat.log2 v = s then leafPN else zeroPN := by
    intro v h1 h2
    rw [hp.nodes v h1 h2, hss]
    unfold newPN
    have l1 : Nat.log2 v < s ↔ v < 2 ^ s := Nat.log2_lt (by omega)
    have l2 : Nat.log2 v < s + 1 ↔ v < 2 ^ (s + 1) := Nat.log2_lt (by omega)
    rw [Nat.pow_succ] at l2
    by_cases a : v < 2 ^ s
    · rw [if_pos a, if_pos (l1.2 a)]
    · rw [if_neg a, if_neg (fun h => a (l1.1 h))]
      by_cases b : v < 2 * 2 ^ s
      · have := l2.2 (by omega)
        have h3 : ¬ Nat.log2 v < s := fun h => a (l1.1 h)
        rw [if_pos b, if_pos (by omega)]
      · have : ¬ Nat.log2 v < s + 1 := fun h => b (by have := l2.1 h; omega)
        rw [if_neg b, if_neg (by omega)]
  refine ⟨hm, hl.conf, hp.conf, hl.len, by rw [hl.hist0]; rfl, hlen, by rw [hp.procs, hl.procs]; rfl, by rw [hl.procs]; simp, by rw [hl.procs]; show (0 : Int) ≤ _; omega, ?_, ?_, ?_, ?_, ?_, ?_, ?_, ?_, ?_, ?_, ?_⟩
  · intro v h1 h2
    have hf := hform v h1 h2
    have hn := hnode v h1 (by omega)
    rw [hn, hl.hist v h1 h2]
    by_cases a : Nat.log2 v < s
    · rw [if_pos a]
      have e : newHist c.start v = [(⟨1, 0, 0, []⟩, .slice none 0 0)] := by unfold newHist; rw [if_pos (by omega)]
      rw [e]
      refine ⟨Or.inl rfl, rfl, fun _ => by rw [hl.procs]; rfl, fun _ => ⟨rfl, by simp [togH, fromH, manyH, innerPN], by simp [widthH, innerPN], by simp [innerPN], by show (1 : Int) ≤ c.width; omega, fun k _ => Or.inl ⟨?_, ?_⟩⟩, fun h => absurd h (by simp [formH])⟩
      · rcases k with _ | _ | _ | k <;> rfl
      · intro i hi
        rw [hl.procs] at hi
        simp at hi
    · rw [if_neg a]
      by_cases b : Nat.log2 v = s
      · rw [if_pos b]
        have e : newHist c.start v = [(⟨2, 0, 0, []⟩, .slice none 0 0)] := by unfold newHist; rw [if_neg (by omega), if_pos (by omega)]
        rw [e]
        refine ⟨Or.inr (Or.inl rfl), rfl, fun _ => by rw [hl.procs]; rfl, fun h => absurd h (by simp [formH]), fun _ => ⟨rfl, by simp [putsH, fromH, manyH, leafPN], by simp [manyH, leafPN], ⟨fun _ => by simp [putsH, fromH, manyH, leafPN], fun _ => rfl, fun t => ?_, fun t => ?_⟩⟩⟩
        · have : ¬ ((t : Int) < 0) := by omega
          simp [itemH, takenH, manyH, fromH, laidH, leafPN, this]
        · simp [takenH, manyH, leafPN]
      · rw [if_neg b]
        have e : newHist c.start v = [] := by unfold newHist; rw [if_neg (by omega), if_neg (by omega)]
        rw [e]
        exact ⟨Or.inr (Or.inr rfl), rfl, fun h => absurd rfl h, fun h => absurd h (by simp [formH]), fun h => absurd h (by simp [formH])⟩
  · intro v h1 h2
    rw [hnode v (by omega) h2]
    have : ¬ Nat.log2 v < d + 1 := fun h => by have := (Nat.log2_lt (by omega)).1 h; omega
    rw [if_neg (by omega), if_neg (by omega)]
    rfl
  · intro i hi
    rw [hl.procs] at hi
    simp at hi
  · intro v h1 h2 hf
    rw [hform v h1 h2] at hf
    have a : (Nat.log2 v : Int) < c.start := by
      split at hf
      · assumption
      · split at hf <;> simp at hf
    have hv : v < 2 ^ d := (Nat.log2_lt (by omega)).1 (by omega)
    have h21 : 2 * v + 1 < L.past.length := by rw [hN, Nat.pow_succ]; omega
    obtain ⟨k1, k2⟩ := hkid v h1 (by omega)
    simp only at k1 k2
    refine ⟨h21, ?_, ?_⟩
    · rw [hform (2 * v) (by omega) (by omega), k1]
      split
      · simp
      · rw [if_pos (by omega)]; simp
    · rw [hform (2 * v + 1) (by omega) h21, k2]
      split
      · simp
      · rw [if_pos (by omega)]; simp
  · intro v h1 h2 hf
    rw [hform v (by omega) h2] at hf
    obtain ⟨k1, k2⟩ := hkid (v / 2) (by omega) (by omega)
    simp only at k1 k2
    have hlg : Nat.log2 v = Nat.log2 (v / 2) + 1 := by
      have : v = 2 * (v / 2) ∨ v = 2 * (v / 2) + 1 := by omega
      rcases this with e | e
      · rw [← k1, ← e]
      · rw [← k2, ← e]
    rw [hform (v / 2) (by omega) (by omega), if_pos ?_]
    · simp
    · split at hf
      · omega
      · split at hf
        · omega
        · simp at hf
  · intro v hv
    by_cases h0 : v = 0
    · subst h0; rw [hl.hist0]; simp [fromH]
    · rw [hl.hist v (by omega) hv]
      unfold newHist
      split
      · simp [fromH]
      · split <;> simp [fromH]
  · have := totL_one L.past fun v hv => by
      have := hh1 v hv
      have e : L.hist v = (L.past[v]).2 := by simp [Lay.hist, hv]
      rw [e] at this
      exact this
    omega
  · intro i hi
    rw [hl.procs] at hi
    simp at hi
  · intro i j hi
    rw [hl.procs] at hi
    simp at hi
  · intro v h1 hv
    rw [hnode v h1 hv]
    split
    · simp [innerPN]
    · split <;> simp [leafPN, zeroPN]
  · rw [hform 1 (by omega) (by omega)]
    have : Nat.log2 1 = 0 := by decide
    rw [this]
    split
    · simp
    · rw [if_pos (by omega)]; simp

theorem SlotRel.push {ps : Prs} {v k : Nat} {s : SL} (h : SlotRel ps v k s) (x : Nat × Pr) (hx : waitP v k x.2 = false) : SlotRel (ps ++ [x]) v k s := by
  have hlen : (ps ++ [x]).length = ps.length + 1 := by simp
  have key : ∀ a, (ha' : a < (ps ++ [x]).length) → waitP v k ((ps ++ [x])[a]).2 = true → ∃ ha : a < ps.length, waitP v k (ps[a]).2 = true := by
    intro a ha' hw
    by_cases ha : a < ps.length
    · rw [List.getElem_append_left ha] at hw
      exact ⟨ha, hw⟩
    · have e : a = ps.length := by omega
      subst e
      simp only [List.getElem_append_right (Nat.le_refl _), Nat.sub_self, List.getElem_cons_zero] at hw
      rw [hx] at hw
      simp at hw
  rcases h with ⟨h0, h5⟩ | ⟨j, hj, a1, a2, a3, a4⟩
  · refine Or.inl ⟨h0, fun a ha' => ?_⟩
    cases hw : waitP v k ((ps ++ [x])[a]).2 with
    | false => rfl
    | true =>
      obtain ⟨ha, hw'⟩ := key a ha' hw
      rw [h5 a ha] at hw'
      simp at hw'
  · have e : (ps ++ [x])[j]'(by omega) = ps[j] := List.getElem_append_left hj
    refine Or.inr ⟨j, by omega, a1, by rw [e]; exact a2, fun a ha' hw => ?_, ?_⟩
    · obtain ⟨ha, hw'⟩ := key a ha' hw
      exact a3 a ha hw'
    · rw [e]
      rcases a4 with a4 | ⟨s2, b, b1, b2, b3, b4⟩
      · exact Or.inl a4
      · exact Or.inr ⟨s2, b, b1, b2, by omega, b4⟩

theorem QInv.more {c : Conf} {H : Nat → Hist} {N np i : Nat} {p : Pr} (h : QInv c H N np i p) : QInv c H N (np + 1) i p :=
  ⟨h.phase, h.kind, h.done, h.live, h.inner, h.leaf, h.slot, h.wide, fun a => by obtain ⟨j, b, d, e⟩ := h.mind a; exact ⟨j, b, by omega, e⟩, h.pat, h.tick⟩

theorem potL_append : ∀ (a b : Prs), potL (a ++ b) = potL a + potL b
  | [], b => by simp [potL]
  | x :: a, b => by simp only [List.cons_append, potL, potL_append a b]; omega

theorem liveL_app : ∀ (a b : Prs), liveL (a ++ b) = liveL a + liveL b
  | [], b => by simp [liveL]
  | x :: a, b => by simp only [List.cons_append, liveL, liveL_app a b]; omega

theorem plive_w {c : Conf} {L : Lay} {P : PLay} (h : WRel c L P) : pliveL P.procs = liveL L.procs := by
  rw [h.procs]
  have : ∀ l : Prs, pliveL (l.map fun x => toPP x.2) = liveL l := by
    intro l
    induction l with
    | nil => rfl
    | cons x l ih =>
      simp only [List.map_cons, pliveL, liveL, ih]
      rfl
  exact this _

theorem new_phase (o : Op3) : (newPr o).phase = 0 ∨ (newPr o).phase = 15 := by
  unfold newPr
  simp only
  split <;> simp

theorem WRel.push {c : Conf} {L : Lay} {P : PLay} (h : WRel c L P) (o : Op3) (hok : okOp c o) (nb : Nat) (x y : Value) (hn : L.procs.length < 256) (hf : (liveL L.procs : Int) < c.procs) :
    WRel c { L with pv := x, procs := L.procs ++ [(nb, newPr o)] } { P with pv := y, procs := P.procs ++ [newPP o] } := by
  have hc := h.confs
  have hl := h.lenle
  have hph := new_phase o
  have hpp : newPP o = toPP (newPr o) := by unfold newPP newPr toPP; rfl
  have hat : atP (newPr o) = 0 := by unfold atP; rw [if_pos (by omega), show (newPr o).node = 1 from rfl]; rfl
  have hho : ∀ u, 1 ≤ u → holdsP u (newPr o) = false := by
    intro u hu
    unfold holdsP
    rw [hat, climb_zero]
    have : ¬ (0 = u) := by omega
    simp [this]
  have hlen : (L.procs ++ [(nb, newPr o)]).length = L.procs.length + 1 := by simp
  have hold : ∀ i, (hi : i < L.procs.length) → (hi' : i < (L.procs ++ [(nb, newPr o)]).length) → (L.procs ++ [(nb, newPr o)])[i] = L.procs[i] := fun i hi _ => List.getElem_append_left hi
  have hnew : ∀ i, (hi' : i < (L.procs ++ [(nb, newPr o)]).length) → ¬ i < L.procs.length → i = L.procs.length ∧ (L.procs ++ [(nb, newPr o)])[i] = (nb, newPr o) := by
    intro i hi' hni
    have e : i = L.procs.length := by omega
    subst e
    exact ⟨rfl, by simp⟩
  refine ⟨h.may, h.cL, h.cP, h.len, h.hist0, h.plen, ?_, by show (L.procs ++ _).length ≤ _; omega, ?_, ?_, h.past, ?_, h.kids, h.par, h.fn, ?_, ?_, ?_, h.isz, h.root⟩
  · show P.procs ++ [newPP o] = (L.procs ++ [(nb, newPr o)]).map _
    rw [List.map_append, h.procs, hpp]
    rfl
  · show ((liveL (L.procs ++ [(nb, newPr o)]) : Nat) : Int) ≤ _
    rw [liveL_app]
    have e20 : ¬ (newPr o).phase = 20 := by omega
    simp only [liveL, if_neg e20]
    omega
  · intro v h1 h2
    have hN := h.nodes v h1 h2
    refine ⟨hN.form, hN.there, fun h3 => ?_, fun hf1 => ?_, hN.leaf⟩
    · show _ = ((insideL v (L.procs ++ [(nb, newPr o)]) : Nat) : Int)
      rw [insideL_append]
      have e : insideL v [(nb, newPr o)] = 0 := by simp [insideL, hho v h1]
      rw [e, Nat.add_zero]
      exact hN.inside h3
    · obtain ⟨a1, a2, a3, a4, a5, a6⟩ := hN.inn hf1
      exact ⟨a1, a2, a3, a4, a5, fun k hk' => (a6 k hk').push (nb, newPr o) (nowait (by show (newPr o).phase ≠ 6; omega) (by show (newPr o).phase ≠ 7; omega) _ _)⟩
  · intro i hi'
    show QInv c L.hist L.past.length (L.procs ++ [(nb, newPr o)]).length i ((L.procs ++ [(nb, newPr o)])[i]).2
    rw [hlen]
    by_cases hi : i < L.procs.length
    · rw [hold i hi hi']
      exact (h.qs i hi).more
    · rw [(hnew i hi' hi).2]
      refine ⟨by show 0 ≤ (newPr o).phase ∧ (newPr o).phase ≤ 20; omega, ?_, fun (a : (newPr o).phase = 20) => by omega, fun _ => ⟨1, rfl, by omega, by omega, h.root⟩, fun (a : 3 ≤ (newPr o).phase) (b : (newPr o).phase ≤ 11) => by omega, fun (a : 12 ≤ (newPr o).phase) (b : (newPr o).phase ≤ 14) => by omega, ⟨by show (0 : Int) ≤ 0; omega, by show (0 : Int) < 4; omega⟩, ⟨by show (0 : Int) ≤ 0; omega, by show (0 : Int) ≤ c.width; omega, fun (a : 4 ≤ (newPr o).phase) (b : (newPr o).phase ≤ 10) => by omega⟩, fun (a : (newPr o).phase = 8) => by omega, by show (0 : Int) ≤ 1000; omega, by show (0 : Int) ≤ 0; omega, by show (0 : Int) ≤ 100000; omega, fun (a : (newPr o).phase = 13) => by omega⟩
      show (c.kind = 0 ∧ o.kind = 0) ∨ (c.kind = 1 ∧ (o.kind = 1 ∨ o.kind = 2)) ∨ o.kind = 3 ∨ o.kind = 4
      unfold okOp at hok
      omega
  · show totL L.past ≤ 32 + potL (L.procs ++ [(nb, newPr o)])
    rw [potL_append]
    have := h.pot
    omega
  · intro i hi' h13
    by_cases hi : i < L.procs.length
    · have e := hold i hi hi'
      simp only [e] at h13 ⊢
      exact h.tk0 i hi h13
    · have e := (hnew i hi' hi).2
      simp only [e] at h13
      omega
  · intro i j hi' hj' a b d e
    have fi : ∀ i, (hi' : i < (L.procs ++ [(nb, newPr o)]).length) → ((L.procs ++ [(nb, newPr o)])[i]).2.phase = 13 → i < L.procs.length := by
      intro i hi' h13
      by_cases hi : i < L.procs.length
      · exact hi
      · rw [(hnew i hi' hi).2] at h13
        simp only at h13
        omega
    have hi := fi i hi' a
    have hj := fi j hj' b
    simp only [hold i hi hi', hold j hj hj'] at a b d e
    exact h.uniq i j hi hj a b d e

theorem new_above : ∀ o : Fin 32, 2 ≤ o.1 → above 1 o.1 := by decide +kernel

theorem kindAt_app {ps : Ps} {x : Nat × Pr} {m : Int} (h : m.toNat < ps.length) : kindAt (ps ++ [x]) m = kindAt ps m := by
  unfold kindAt
  rw [List.getElem?_append_left h]

theorem CRel.push {c : Conf} {L : Lay} {P : PLay} (h : CRel c L P) (o : Op3) (hok : okOp c o) (nb : Nat) (x y : Value) (hn : L.procs.length < 256) (hf : (liveL L.procs : Int) < c.procs) :
    CRel c { L with pv := x, procs := L.procs ++ [(nb, newPr o)] } { P with pv := y, procs := P.procs ++ [newPP o] } := by
  have hph := new_phase o
  have hl := h.rel.lenle
  have hc := h.rel.confs
  have ci := h.ck.ci
  have hlen : (L.procs ++ [(nb, newPr o)]).length = L.procs.length + 1 := by simp
  have hold : ∀ i, (hi : i < L.procs.length) → (hi' : i < (L.procs ++ [(nb, newPr o)]).length) → (L.procs ++ [(nb, newPr o)])[i] = L.procs[i] := fun i hi _ => List.getElem_append_left hi
  have hnew : ∀ i, (hi' : i < (L.procs ++ [(nb, newPr o)]).length) → ¬ i < L.procs.length → i = L.procs.length ∧ (L.procs ++ [(nb, newPr o)])[i] = (nb, newPr o) := by
    intro i hi' hni
    have e : i = L.procs.length := by omega
    subst e
    exact ⟨rfl, by simp⟩
  have hat : atP (newPr o) = 0 := by unfold atP; rw [if_pos (by omega), show (newPr o).node = 1 from rfl]; rfl
  have hho : ∀ u, 1 ≤ u → holdsP u (newPr o) = false := by
    intro u hu
    unfold holdsP
    rw [hat, climb_zero]
    have : ¬ (0 = u) := by omega
    simp [this]
  have hmet : ∀ j, (hj : j < L.procs.length) → metB (L.procs[j]).2 = true → (L.procs[j]).2.met.toNat < L.procs.length := by
    intro j hj hm
    unfold metB at hm
    simp only [Bool.and_eq_true, Bool.or_eq_true, decide_eq_true_eq] at hm
    obtain ⟨v, n, hh⟩ := h.rel.here hj (by omega)
    obtain ⟨k, hk, hs⟩ := hh.slotk
    obtain ⟨_, hx⟩ := hh.mine hm.1 hk hs (hh.inner (by omega) (by omega))
    rcases hx with ⟨_, _, e⟩ | ⟨_, b, _, e, hb, _⟩
    · omega
    · omega
  have heP : ∀ j, (hj : j < L.procs.length) → ∀ u, eP (L.procs ++ [(nb, newPr o)]) u (L.procs[j]).2 = eP L.procs u (L.procs[j]).2 := by
    intro j hj u
    cases hm : metB (L.procs[j]).2 with
    | false => unfold eP tokP wcP; rw [hm]; simp
    | true => unfold eP tokP wcP; rw [kindAt_app (hmet j hj hm)]
  have hdl : (2 ^ c.depth.toNat : Nat) ≤ 16 := Nat.le_trans (Nat.pow_le_pow_right (by omega) (by omega : c.depth.toNat ≤ 4)) (by decide)
  have hcq : CQ c L.hist (newPr o) := by
    refine ⟨by show 0 ≤ o.kind ∧ o.kind ≤ 4; unfold okOp at hok; omega, fun (a : o.kind < 3) => ?_, fun (a : 3 ≤ o.kind) => ?_, fun a b => by omega⟩
    · have : isChange o = false := by unfold isChange; have x3 : ¬ o.kind = 3 := by omega
                                      have x4 : ¬ o.kind = 4 := by omega
                                      simp [x3, x4]
      have : (newPr o).phase = 0 := by unfold newPr; simp [this]
      omega
    · unfold okOp at hok
      have ho : 1 ≤ o.node ∧ o.node < ((2 ^ c.depth.toNat : Nat) : Int) := by omega
      refine ⟨ho.1, by show o.node.toNat < _; omega, ?_⟩
      have hch : isChange o = true := by unfold isChange; have : o.kind = 3 ∨ o.kind = 4 := by omega
                                         rcases this with e | e <;> simp [e]
      by_cases e1 : o.node = 1
      · have : (newPr o).phase = 15 := by unfold newPr; simp [hch, e1]
        exact Or.inr (Or.inl ⟨by omega, by omega, by show (1 : Int) = o.node; omega⟩)
      · have : (newPr o).phase = 0 := by unfold newPr; simp [e1]
        refine Or.inl ⟨Or.inl this, ?_⟩
        show above (1 : Int).toNat o.node.toNat
        exact new_above ⟨o.node.toNat, by omega⟩ (by show 2 ≤ o.node.toNat; omega)
  refine ⟨h.rel.push o hok nb x y hn hf, ⟨fun v h1 hv hf3 => ?_⟩, ?_⟩
  · show (P.nodes.getD v zeroPN).shut = shutL v (L.procs ++ [(nb, newPr o)])
    rw [shutL_append]
    have : shutL (v : Int) [(nb, newPr o)] = false := by simp only [shutL, shutP_no (p := newPr o) (by omega)]; rfl
    rw [this, Bool.or_false]
    exact h.ck.si.shut v h1 hv hf3
  · show CInv c (L.procs ++ [(nb, newPr o)]) L.hist L.past.length (fun _ => 0)
    refine ⟨fun i hi' => ?_, fun a b ha' hb' x1 x2 x3 x4 x5 => ?_, fun a b ha' hb' x1 x2 => ?_, ci.par, fun u h1 hu hf1 => ?_, fun hk u h1 hu hf2 => ?_, ?_, ci.nog⟩
    · by_cases hi : i < L.procs.length
      · rw [hold i hi hi']; exact ci.cq i hi
      · rw [(hnew i hi' hi).2]; exact hcq
    · have fa : ∀ a, (ha' : a < (L.procs ++ [(nb, newPr o)]).length) → 16 ≤ ((L.procs ++ [(nb, newPr o)])[a]).2.phase → a < L.procs.length := by
        intro a ha' hx
        by_cases ha : a < L.procs.length
        · exact ha
        · rw [(hnew a ha' ha).2] at hx; simp only at hx; omega
      have ha := fa a ha' x1
      have hb := fa b hb' x3
      rw [hold a ha ha'] at x1 x2 x5
      rw [hold b hb hb'] at x3 x4 x5
      exact ci.gate a b ha hb x1 x2 x3 x4 x5
    · have ha : a < L.procs.length := by
        by_cases ha : a < L.procs.length
        · exact ha
        · rw [(hnew a ha' ha).2] at x1; simp only at x1; omega
      rw [hold a ha ha'] at x1 x2 ⊢
      by_cases hb : b < L.procs.length
      · rw [hold b hb hb'] at x2 ⊢
        exact ci.calm a b ha hb x1 x2
      · rw [(hnew b hb' hb).2] at x2
        obtain ⟨u, e1, _, e3, _⟩ := ci.gnode h.rel.len ha (by omega) (by omega)
        rw [e1, Int.toNat_natCast] at x2
        simp only [hho u e3] at x2
        simp at x2
    · have e := ci.even u h1 hu hf1
      unfold evenS at e ⊢
      rw [sumP_app, sumP_congr _ (eP L.procs u) L.procs (fun j hj => heP j hj u)]
      have : eP (L.procs ++ [(nb, newPr o)]) u (newPr o) = 0 := by
        by_cases e0 : (newPr o).phase = 0
        · rw [eP_walk (by omega) (by omega) (by omega)]
          have := side_root ⟨u, by omega⟩ h1
          simp only at this
          show side u (1 : Int).toNat * _ = 0
          rw [show (1 : Int).toNat = 1 from rfl, this]
          simp
        · exact eP_out (by omega) u
      simp only [sumP, this]
      omega
    · have e := ci.lies hk u h1 hu hf2
      rw [sumP_app]
      simp only [sumP, stP_no (p := newPr o) (by omega) (by omega)]
      omega
    · have e := ci.sum
      rw [sumP_app]
      have : tickP (newPr o) = 0 := by unfold tickP; rw [if_neg (by omega)]
      simp only [sumP, this]
      omega

theorem crel_new {c : Conf} {L : Lay} {P : PLay} (hm : mayC c = true) (hl : NewLay c L) (hp : PNew c P) (hlen : P.nodes.length = 32) : CRel c L P := by
  have hw := wrel_new hm hl hp hlen
  have hll := hw.lenle
  have hform : ∀ v, 1 ≤ v → v < L.past.length → formH (L.hist v) = if (Nat.log2 v : Int) < c.start then 1 else if (Nat.log2 v : Int) = c.start then 2 else 3 := fun v h1 h2 => by rw [hl.hist v h1 h2]; exact newHist_form _ _
  have hone : ∀ v, v < L.past.length → L.hist v = [] ∨ L.hist v = [(⟨1, 0, 0, []⟩, .slice none 0 0)] ∨ L.hist v = [(⟨2, 0, 0, []⟩, .slice none 0 0)] := by
    intro v hv
    by_cases h0 : v = 0
    · subst h0; exact Or.inl hl.hist0
    · rw [hl.hist v (by omega) hv]
      unfold newHist
      split
      · exact Or.inr (Or.inl rfl)
      · split
        · exact Or.inr (Or.inr rfl)
        · exact Or.inl rfl
  have hbal : ∀ v, v < L.past.length → balH (L.hist v) = 0 ∧ putN (L.hist v) = 0 ∧ togH (L.hist v) = 0 ∧ itemsH (L.hist v) = [] ∧ manyH 7 (-1) (L.hist v) = 0 := by
    intro v hv
    rcases hone v hv with e | e | e <;> rw [e] <;> simp [balH, putN, togH, itemsH, itemsTo, formH, putsH, fromH, manyH]
  have hkid := fun v (h1 : 1 ≤ v) (h2 : v < 32) => log2_kid ⟨v, h2⟩ h1
  refine ⟨hw, ⟨fun v h1 hv _ => ?_⟩, ?_⟩
  · rw [hl.procs]
    have hn := hp.nodes v h1 (by omega)
    rw [hn]
    unfold newPN
    split
    · rfl
    · split <;> rfl
  · rw [hl.procs]
    refine ⟨fun i hi => absurd hi (by simp), fun i j hi => absurd hi (by simp), fun i j hi => absurd hi (by simp), fun v h2 hv hf => ?_, fun u h1 hu hf => ?_, fun _ u h1 hu hf => ?_, ?_, fun _ u hu => (hbal u hu).2.2.2.2⟩
    · rw [hform v (by omega) hv] at hf
      obtain ⟨k1, k2⟩ := hkid (v / 2) (by omega) (by omega)
      simp only at k1 k2
      have hlg : Nat.log2 v = Nat.log2 (v / 2) + 1 := by
        have : v = 2 * (v / 2) ∨ v = 2 * (v / 2) + 1 := by omega
        rcases this with e | e
        · rw [← k1, ← e]
        · rw [← k2, ← e]
      rw [hform (v / 2) (by omega) (by omega), if_pos ?_]
      split at hf
      · omega
      · split at hf
        · omega
        · simp at hf
    · unfold evenS
      rw [sumN_zero _ _ fun w hw => by rw [(hbal w hw).1]; simp, (hbal u hu).2.2.1]
      rfl
    · rw [(hbal u hu).2.2.2.1, (hbal u hu).1]
      rfl
    · rw [sumN_zero _ _ fun w hw => (hbal w hw).2.1]
      simp [sumP]

end Go.Proofs.YtjnmpejcegmkhaaGreatDoor
