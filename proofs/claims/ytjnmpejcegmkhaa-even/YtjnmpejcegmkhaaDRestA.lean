/- Rest, of the program and of the document: both take the same steps. Rest of the document. No statement of the seat is proved here. -/
import Derived.Test.YtjnmpejcegmkhaaDBoth
namespace Go.Proofs.Ytjnmpejcegmkhaa
open Go.RowKit
set_option linter.unusedVariables false

theorem len_ite {p : Prop} [Decidable p] {a b : Lay} {n : Nat} (h1 : p → a.procs.length = n) (h2 : ¬ p → b.procs.length = n) : (if p then a else b).procs.length = n := by
  by_cases hp : p
  · rw [if_pos hp]; exact h1 hp
  · rw [if_neg hp]; exact h2 hp
theorem lstep_len (L : Lay) (i : Nat) (d : Int) : (lstep L i d).procs.length = L.procs.length := by
  unfold lstep
  cases L.procs[i]? with
  | none => rfl
  | some x =>
    simp only
    refine len_ite (fun _ => ?_) (fun _ => len_ite (fun _ => by simp) (fun _ => len_ite (fun _ => by simp) (fun _ => len_ite (fun _ => by simp) (fun _ => len_ite (fun _ => len_ite (fun _ => by simp) (fun _ => len_ite (fun _ => by simp) (fun _ => by simp))) (fun _ => len_ite (fun _ => len_ite (fun _ => by simp) (fun _ => by simp)) (fun _ => len_ite (fun _ => ?_) (fun _ => len_ite (fun _ => len_ite (fun _ => by simp) (fun _ => len_ite (fun _ => by simp) (fun _ => by simp))) (fun _ => by simp))))))))
    · cases L.procs[(incPr x.2).mind.toNat]? with
      | none => simp
      | some y => exact len_ite (fun _ => by simp) (fun _ => by simp)
    · cases itemH (L.hist (incPr x.2).node.toNat) (incPr x.2).ticket with
      | none => simp
      | some z => simp

theorem CRel.next {c : Conf} {B : Nat} {L : Lay} {P : PLay} (h : CRel c L P) {i : Nat} (hi : i < L.procs.length) (hl : (L.procs[i]).2.phase ≠ 20) (draw : Int) :
    ∃ ph, ProgStep B P i draw ph (fun P' => P'.tb = P.tb ∧ CRel c (lstep L i draw) P') ∧ RefStep B L i draw ph (fun L' => L'.tb = L.tb ∧ Same (lstep L i draw) L') ∧ ∃ P', CRel c (lstep L i draw) P' := by
  obtain ⟨v, n, hh⟩ := h.rel.here hi hl
  obtain ⟨ph, FP, FL, h1, h2, h3, ⟨⟨P0, hP0⟩, ⟨L0, hL0⟩, h4⟩, h5, h6⟩ := hh.both (B := B) h.ck draw
  have key : ∀ P', FP P' → CRel c (lstep L i draw) P' := fun P' hP => (h1 L0 P' hL0 hP).same (h4 L0 hL0).symm
  refine ⟨ph, ⟨fun W a b => (h5.1 W a b).mono ?_, fun W a b => (h5.2 W a b).mono ?_⟩, fun W a b => (h6 W a b).mono ?_, P0, key P0 hP0⟩
  · rintro e w' ⟨e0, ⟨P', x, y⟩, z⟩
    exact ⟨e0, ⟨P', ⟨h2 P' x, key P' x⟩, y⟩, z⟩
  · rintro e w' ⟨e0, ⟨P', x, y⟩, z⟩
    exact ⟨e0, ⟨P', ⟨h2 P' x, key P' x⟩, y⟩, z⟩
  · rintro e w' ⟨e0, ⟨L', x, y⟩, z⟩
    exact ⟨e0, ⟨L', ⟨h3 L' x, h4 L' x⟩, y⟩, z⟩

/-- The first k processes take their step of a round. -/
def lroundTo (L : Lay) (d : Int) : Nat → Lay
  | 0 => L
  | k + 1 => if ((lroundTo L d k).procs.getD k (0, newPr ⟨0, 0, 0⟩)).2.phase = 20 then lroundTo L d k else lstep (lroundTo L d k) k (d + k)
theorem lroundTo_len (L : Lay) (d : Int) : ∀ k, (lroundTo L d k).procs.length = L.procs.length
  | 0 => rfl
  | k + 1 => by
    unfold lroundTo
    split
    · exact lroundTo_len L d k
    · rw [lstep_len, lroundTo_len L d k]
def lrest (L : Lay) (m : Int) : Nat → Lay
  | 0 => L
  | r + 1 => lroundTo (lrest L m r) (m + r) L.procs.length
theorem lrest_len (L : Lay) (m : Int) : ∀ r, (lrest L m r).procs.length = L.procs.length
  | 0 => rfl
  | r + 1 => by unfold lrest; rw [lroundTo_len, lrest_len L m r]

theorem lroundTo_same {L L' : Lay} (h : Same L L') (d : Int) : ∀ k, Same (lroundTo L d k) (lroundTo L' d k)
  | 0 => h
  | k + 1 => by
    have ih := lroundTo_same h d k
    obtain ⟨hl, hg⟩ := snds_at ih.procs
    have e : ((lroundTo L' d k).procs.getD k (0, newPr ⟨0, 0, 0⟩)).2.phase = ((lroundTo L d k).procs.getD k (0, newPr ⟨0, 0, 0⟩)).2.phase := by
      by_cases hk : k < (lroundTo L d k).procs.length
      · rw [List.getD_eq_getElem?_getD, List.getD_eq_getElem?_getD, List.getElem?_eq_getElem hk, List.getElem?_eq_getElem (by omega : k < (lroundTo L' d k).procs.length)]
        simp only [Option.getD_some, hg k hk (by omega)]
      · rw [List.getD_eq_getElem?_getD, List.getD_eq_getElem?_getD, List.getElem?_eq_none (by omega), List.getElem?_eq_none (by omega)]
    unfold lroundTo
    rw [e]
    exact same_ite (fun _ => ih) (fun _ => lstep_same ih k _)

theorem CRel.plen {c : Conf} {L : Lay} {P : PLay} (h : CRel c L P) : P.procs.length = L.procs.length := by rw [h.rel.procs, List.length_map]
theorem CRel.pphase {c : Conf} {L : Lay} {P : PLay} (h : CRel c L P) (k : Nat) (hk : k < L.procs.length) (hk' : k < P.procs.length) : (P.procs[k]).phase = (L.procs[k]).2.phase := by
  have : P.procs[k] = toPP (L.procs[k]).2 := by simp [h.rel.procs]
  rw [this]
  rfl

set_option maxHeartbeats 4000000 in
theorem pround_c {c : Conf} {w : World} {B : Nat} {L : Lay} {P : PLay} (hr : CRel c L P) (h : PRep w B P) (hB : B ≤ w.heap.size) (d : Int) (hd0 : 0 ≤ d) (hd : d ≤ 1000) :
    Calls Try.prog 90 #[.pointer (some ⟨P.tb, 0, none⟩), I d] w fun e w' => e = .returned (.tuple #[]) ∧ (∃ P', P'.tb = P.tb ∧ CRel c (lroundTo L d L.procs.length) P' ∧ PRep w' B P') ∧ ChgT B [78, 119, 135] w w' := by
  have hnp := hr.rel.np
  have HK : Hid (∀ (k : Nat) (P' : PLay) (wr : World), k < L.procs.length → CRel c (lroundTo L d k) P' → PRep wr B P' → P'.tb = P.tb →
      ∃ (g : Nat) (cap : Nat) (ph : Int), wr.cell? ⟨P.tb, 680, none⟩ = some (.slice (some ⟨g, 0, none⟩) L.procs.length cap) ∧ L.procs.length ≤ cap ∧ cap ≤ 2 ^ 63 - 1 ∧ wr.cell? ⟨g, k * 11 + 3, none⟩ = some (I ph) ∧
        (ph = 20 → CRel c (lroundTo L d (k + 1)) P') ∧ (ph ≠ 20 → B ≤ wr.heap.size → Calls Try.prog 81 #[.pointer (some ⟨P.tb, 0, none⟩), I k, I (d + k)] wr fun e w' => e = .returned (.tuple #[]) ∧ (∃ P'', P''.tb = P.tb ∧ CRel c (lroundTo L d (k + 1)) P'' ∧ PRep w' B P'') ∧ ChgT B [78, 119, 135] wr w')) := by
    intro k P' wr hk hc hp htb
    have hlL := lroundTo_len L d k
    have hlP := hc.plen
    obtain ⟨ao, cap, e1, q1, q2, q3, hx⟩ := hp.pp_at
    have p1 := hp.pcell
    have hkP : k < P'.procs.length := by omega
    have hkL : k < (lroundTo L d k).procs.length := by omega
    obtain ⟨g, rfl, hf⟩ := hx k hkP
    have hph := hc.pphase k hkL hkP
    have eg : (lroundTo L d k).procs.getD k (0, newPr ⟨0, 0, 0⟩) = (lroundTo L d k).procs[k] := by simp [List.getD_eq_getElem?_getD, List.getElem?_eq_getElem hkL]
    have el : P'.procs.length = L.procs.length := by omega
    rw [e1, el, htb] at p1
    refine ⟨g, cap, (P'.procs[k]).phase, p1, by omega, by unfold maxLen at q3; omega, hf 3 (by omega), fun h20 => ?_, fun h20 hBr => ?_⟩
    · unfold lroundTo
      rw [eg, if_pos (by rw [← hph]; exact h20)]
      exact hc
    · obtain ⟨ph, hp1, _, _⟩ := hc.next (B := B) hkL (by rw [← hph]; exact h20) (d + k)
      have := hp1.1 wr hp hBr
      rw [htb] at this
      refine this.mono ?_
      rintro e w' ⟨e0, ⟨P'', ⟨a, b⟩, y⟩, z⟩
      refine ⟨e0, ⟨P'', a, ?_, y⟩, z⟩
      unfold lroundTo
      rw [eg, if_neg (by rw [← hph]; exact h20)]
      exact b
  have HE : Hid (∀ (P' : PLay) (wr : World) (k : Nat), CRel c (lroundTo L d k) P' → PRep wr B P' → P'.tb = P.tb → ∃ ao cap, wr.cell? ⟨P.tb, 680, none⟩ = some (.slice ao L.procs.length cap)) := by
    intro P' wr k hc hp htb
    obtain ⟨ao, cap, e1, _⟩ := hp.pp_at
    have p1 := hp.pcell
    have hlL := lroundTo_len L d k
    have hlP := hc.plen
    have el : P'.procs.length = L.procs.length := by omega
    rw [e1, el, htb] at p1
    exact ⟨ao, cap, p1⟩
  have H0 : Hid (CRel c (lroundTo L d 0) P) := hr
  clear hr
  generalize hn : L.procs.length = np at *
  go_enter Try.func90, Try.ntmps90
  go_wp2_with fail
  go_loopw [4] (fun i wr => ∃ (k : Nat) (P' : PLay), k ≤ np ∧ i = .int .i64 k ∧ P'.tb = P.tb ∧ CRel c (lroundTo L d k) P' ∧ PRep wr B P' ∧ ChgT B [78, 119, 135] w wr) (fun i _ => np - (intOf i).toNat)
  case atStart => exact ⟨0, P, by omega, rfl, rfl, H0.out, h, ChgT.refl _ _ _⟩
  case round =>
    obtain ⟨k, P', hk, rfl, htb, hc, hp, hch⟩ := hrel
    have hBr : B ≤ wr.heap.size := Nat.le_trans hB hch.size
    by_cases hlt : k < np
    · obtain ⟨g, cap, ph, p1, p2, p3, c3, hd20, hst⟩ := HK.out k P' wr hlt hc hp htb
      by_cases h20 : ph = 20
      · have hc' := hd20 h20
        have b1 : (ph != 20) = false := by simp [h20]
        replace hc' : Hid _ := hc'
        replace hch : Hid _ := hch
        replace hp : Hid _ := hp
        replace htb : Hid _ := htb
        clear hd20 hst h20 hc
        go_wp2
        go_roundw
        case rel => exact ⟨k + 1, P', by omega, by go_num, htb.out, hc'.out, hp.out, hch.out⟩
        case measure => simp [intOf]; omega
      · have hcall := hst h20 hBr
        have b1 : (ph != 20) = true := by simp [h20]
        replace hcall : Hid _ := hcall
        replace hch : Hid _ := hch
        clear hd20 hst h20 hc hp htb
        go_wp2_with fail
        refine Calls.mono hcall.out ?_
        rintro e w' ⟨rfl, ⟨P'', t1, t2, t3⟩, t4⟩
        have hch2 := hch.out.trans t4
        replace t1 : Hid _ := t1
        replace t2 : Hid _ := t2
        replace t3 : Hid _ := t3
        replace hch2 : Hid _ := hch2
        clear hcall hch t4 p1 c3
        go_wp2
        go_roundw
        case rel => exact ⟨k + 1, P'', by omega, by go_num, t1.out, t2.out, t3.out, hch2.out⟩
        case measure => simp [intOf]; omega
    · have ek : k = np := by omega
      obtain ⟨ao, cap, p1⟩ := HE.out P' wr k hc hp htb
      subst ek
      replace hc : Hid _ := hc
      replace hch : Hid _ := hch
      replace hp : Hid _ := hp
      replace htb : Hid _ := htb
      go_wp2_with fail
      go_end0
      exact ⟨rfl, ⟨P', htb.out, hc.out, hp.out⟩, hch.out⟩

set_option maxHeartbeats 4000000 in
theorem prest_ok {c : Conf} {w : World} {B : Nat} {L : Lay} {P : PLay} (hr : CRel c L P) (h : PRep w B P) (hB : B ≤ w.heap.size) (r : Nat) (hr9 : r ≤ 100) (draw : Int) :
    Calls Try.prog 59 #[.pointer (some ⟨P.tb, 0, none⟩), I r, I draw] w fun e w' => e = .returned (.tuple #[I (liveL (lrest L (draw % 12) r).procs), I 0]) ∧ (∃ P', P'.tb = P.tb ∧ CRel c (lrest L (draw % 12) r) P' ∧ PRep w' B P') ∧ ChgT B [78, 119, 135] w w' := by
  have hm := fun W => modulo_c draw 12 (by omega) (by omega) W
  have m0 := Int.emod_nonneg draw (show (12 : Int) ≠ 0 by omega)
  have m1 := Int.emod_lt_of_pos draw (show (0 : Int) < 12 by omega)
  have hm' : ∀ W, Calls Try.prog 89 #[I draw, I 12] W fun e w' => e = .returned (I (draw % 12)) ∧ w' = W := hm
  clear hm
  have HR : Hid (∀ (k : Nat) (P' : PLay) (wr : World), k < r → CRel c (lrest L (draw % 12) k) P' → PRep wr B P' → P'.tb = P.tb → B ≤ wr.heap.size → Calls Try.prog 90 #[.pointer (some ⟨P.tb, 0, none⟩), I (draw % 12 + k)] wr fun e w' => e = .returned (.tuple #[]) ∧ (∃ P'', P''.tb = P.tb ∧ CRel c (lrest L (draw % 12) (k + 1)) P'' ∧ PRep w' B P'') ∧ ChgT B [78, 119, 135] wr w') := by
    intro k P' wr hk hc hp htb hBr
    have := pround_c hc hp hBr (draw % 12 + k) (by omega) (by omega)
    rw [htb, lrest_len] at this
    exact this
  have HL : Hid (∀ (P' : PLay) (wr : World), CRel c (lrest L (draw % 12) r) P' → PRep wr B P' → P'.tb = P.tb → Calls Try.prog 72 #[.pointer (some ⟨P.tb, 0, none⟩)] wr fun e w' => e = .returned (I (liveL (lrest L (draw % 12) r).procs)) ∧ w' = wr) := by
    intro P' wr hc hp htb
    have := plive_c hp
    rw [htb, plive_w hc.rel] at this
    exact this
  have H0 : Hid (CRel c (lrest L (draw % 12) 0) P) := hr
  replace hm' : Hid _ := hm'
  clear hr
  generalize draw % 12 = m at *
  have hrn : decide ((r : Int) < 0) = false := by simp
  have hr1 : decide ((100 : Int) < (r : Int)) = false := by simp; omega
  go_enter Try.func59, Try.ntmps59
  go_wp2_with fail
  refine Calls.mono (hm'.out _) ?_
  rintro e w1 ⟨rfl, rfl⟩
  clear hm'
  go_wp2_with fail
  go_loopw [9] (fun i wr => ∃ (k : Nat) (P' : PLay), k ≤ r ∧ i = .int .i64 k ∧ P'.tb = P.tb ∧ CRel c (lrest L m k) P' ∧ PRep wr B P' ∧ ChgT B [78, 119, 135] w1 wr) (fun i _ => r - (intOf i).toNat)
  case atStart => exact ⟨0, P, by omega, rfl, rfl, H0.out, h, ChgT.refl _ _ _⟩
  case round =>
    obtain ⟨k, P', hk, rfl, htb, hc, hp, hch⟩ := hrel
    have hBr : B ≤ wr.heap.size := Nat.le_trans hB hch.size
    by_cases hlt : k < r
    · have hcall := HR.out k P' wr hlt hc hp htb hBr
      replace hcall : Hid _ := hcall
      replace hch : Hid _ := hch
      clear hc hp htb
      go_wp2_with fail
      refine Calls.mono hcall.out ?_
      rintro e w' ⟨rfl, ⟨P'', t1, t2, t3⟩, t4⟩
      have hch2 := hch.out.trans t4
      replace t1 : Hid _ := t1
      replace t2 : Hid _ := t2
      replace t3 : Hid _ := t3
      replace hch2 : Hid _ := hch2
      clear hcall hch t4
      go_wp2
      go_roundw
      case rel => exact ⟨k + 1, P'', by omega, by go_num, t1.out, t2.out, t3.out, hch2.out⟩
      case measure => simp [intOf]; omega
    · have ek : k = r := by omega
      subst ek
      have hcall := HL.out P' wr hc hp htb
      replace hcall : Hid _ := hcall
      replace hc : Hid _ := hc
      replace hch : Hid _ := hch
      replace hp : Hid _ := hp
      replace htb : Hid _ := htb
      obtain ⟨lv, hlv⟩ : ∃ lv, lv = liveL (lrest L m k).procs := ⟨_, rfl⟩
      rw [← hlv] at hcall
      have HLV : Hid (lv = liveL (lrest L m k).procs) := hlv
      clear hlv
      go_wp2_with fail
      refine Calls.mono hcall.out ?_
      rintro e w' ⟨rfl, rfl⟩
      go_wp2
      go_ret2
      refine ⟨?_, ⟨P', htb.out, hc.out, hp.out⟩, hch.out⟩
      rw [← HLV.out]
      rfl

set_option maxHeartbeats 2000000 in
theorem prest_err {w : World} (tb : Nat) (a b : Int) (ha : a < 0 ∨ 100 < a) :
    Calls Try.prog 59 #[.pointer (some ⟨tb, 0, none⟩), I a, I b] w fun e w' => e = .returned (.tuple #[I 0, I 6]) ∧ w' = w := by
  by_cases h0 : a < 0
  · clear ha
    go_enter Try.func59, Try.ntmps59
    go_wp2
    go_ret2
    exact ⟨rfl, rfl⟩
  · have hd : decide (a < 0) = false := by simp; omega
    have h1 : 100 < a := by omega
    clear ha h0
    go_enter Try.func59, Try.ntmps59
    go_wp2
    go_ret2
    exact ⟨rfl, rfl⟩

/-- What is held in the midst of a Rest of the document: its tree is D but for the places of memory. -/
structure RSt (wr : World) (B : Nat) (c : Conf) (tb : Nat) (D L' : Lay) : Prop where
  tb : L'.tb = tb
  same : Same D L'
  rel : ∃ P', CRel c L' P'
  rep : RefRep wr B L'

set_option maxHeartbeats 8000000 in
theorem rrest_ok {c : Conf} {w : World} {B : Nat} {L : Lay} {P : PLay} (hr : CRel c L P) (h : RefRep w B L) (hB : B ≤ w.heap.size) (r : Nat) (hr9 : r ≤ 100) (draw : Int) :
    Calls Try.prog 1000037 #[.pointer (some ⟨L.tb, 0, none⟩), I r, I draw] w fun e w' => e = .returned (.tuple #[I (liveL (lrest L (draw % 12) r).procs), I 0]) ∧ (∃ L', L'.tb = L.tb ∧ Same (lrest L (draw % 12) r) L' ∧ RefRep w' B L') ∧ ChgT B [1000003, 1000004, 1000002] w w' := h.no.elim
end Go.Proofs.Ytjnmpejcegmkhaa
