/- Rest, of the program and of the document: both take the same steps. Rest of the document. No statement of the seat is proved here. A step of a script that looks, where lists are kept: the statements' own step answers true, both trees go on alike, and what is kept stays. No statement of the seat is proved here. A step of a script that begins a process, where lists are kept: the statements' own step answers true, both trees go on alike, and what is kept stays. No statement of the seat is proved here. A step of a script that rests, where lists are kept: the statements' own step answers true, both trees go on alike, and what is kept stays. No statement of the seat is proved here. A step of a script that steps, where lists are kept: the statements' own step answers true, both trees go on alike, and what is kept stays. No statement of the seat is proved here. The contract of the statements' own keep: a list that came out is written full with the next mark, and kept. No statement of the seat is proved here. The contract of the statements' own owns: all lists of what Nodes handed out are kept, and the outer one is written full. No statement of the seat is proved here. The contract of the statements' own owns: the walk. No statement of the seat is proved here. A Nodes of a script: what came out is written full by its owner, and both trees are as they were. No statement of the seat is proved here. -/
import Derived.Test.YtjnmpejcegmkhaaDBoth
import Derived.Test.YtjnmpejcegmkhaaA2
import Derived.Deep.RegionWith
import Derived.Deep.DeepCutAuto
import Derived.Deep.RegionLaw
import Derived.Deep.AppendLies
namespace Go.Proofs.Ytjnmpejcegmkhaa
open Go.RowKit
variable {Fr : Nat → Prop}

theorem len_ite {p : Prop} [Decidable p] {a b : Lay} {n : Nat} (h1 : p → a.procs.length = n) (h2 : ¬ p → b.procs.length = n) : (if p then a else b).procs.length = n := by
  by_cases hp : p
  · rw [if_pos hp]; exact h1 hp
  · rw [if_neg hp]; exact h2 hp
theorem lstep_len (L : Lay) (i : Nat) (d : Int) : (lstep L i d).procs.length = L.procs.length := by
  unfold lstep
  cases L.procs[i]? with
  | none => rfl
  | some x =>
    simp only
    refine len_ite (fun _ => ?_) (fun _ => len_ite (fun _ => by simp) (fun _ => len_ite (fun _ => by simp) (fun _ => len_ite (fun _ => by simp) (fun _ => len_ite (fun _ => len_ite (fun _ => by simp) (fun _ => len_ite (fun _ => by simp) (fun _ => by simp))) (fun _ => len_ite (fun _ => len_ite (fun _ => by simp) (fun _ => by simp)) (fun _ => len_ite (fun _ => ?_) (fun _ => len_ite (fun _ => len_ite (fun _ => by simp) (fun _ => len_ite (fun _ => by simp) (fun _ => by simp))) (fun _ => by simp))))))))
    · cases L.procs[(incPr x.2).mind.toNat]? with
      | none => simp
      | some y => exact len_ite (fun _ => by simp) (fun _ => by simp)
    · cases itemH (L.hist (incPr x.2).node.toNat) (incPr x.2).ticket with
      | none => simp
      | some z => simp

theorem CRel.next {c : Conf} {B : Nat} {L : Lay} {P : PLay} (h : CRel c L P) {i : Nat} (hi : i < L.procs.length) (hl : (L.procs[i]).2.phase ≠ 20) (draw : Int) :
    ∃ ph, ProgStep B P i draw ph (fun P' => P'.tb = P.tb ∧ CRel c (lstep L i draw) P') ∧ RefStep Fr B L i draw ph (fun L' => L'.tb = L.tb ∧ Same (lstep L i draw) L') ∧ ∃ P', CRel c (lstep L i draw) P' := by
  obtain ⟨v, n, hh⟩ := h.rel.here hi hl
  obtain ⟨ph, FP, FL, h1, h2, h3, ⟨⟨P0, hP0⟩, ⟨L0, hL0⟩, h4⟩, h5, h6⟩ := hh.both (B := B) h.ck draw
  have key : ∀ P', FP P' → CRel c (lstep L i draw) P' := fun P' hP => (h1 L0 P' hL0 hP).same (h4 L0 hL0).symm
  refine ⟨ph, ⟨fun W a b => (h5.1 W a b).mono ?_, fun W a b => (h5.2 W a b).mono ?_⟩, fun W a b => (h6 W a b).mono ?_, P0, key P0 hP0⟩
  · rintro e w' ⟨e0, ⟨P', x, y⟩, z⟩
    exact ⟨e0, ⟨P', ⟨h2 P' x, key P' x⟩, y⟩, z⟩
  · rintro e w' ⟨e0, ⟨P', x, y⟩, z⟩
    exact ⟨e0, ⟨P', ⟨h2 P' x, key P' x⟩, y⟩, z⟩
  · rintro e w' ⟨e0, ⟨L', x, y⟩, z⟩
    exact ⟨e0, ⟨L', ⟨h3 L' x, h4 L' x⟩, y⟩, z⟩

/-- The first k processes take their step of a round. -/
def lroundTo (L : Lay) (d : Int) : Nat → Lay
  | 0 => L
  | k + 1 => if ((lroundTo L d k).procs.getD k (0, newPr ⟨0, 0, 0⟩)).2.phase = 20 then lroundTo L d k else lstep (lroundTo L d k) k (d + k)
theorem lroundTo_len (L : Lay) (d : Int) : ∀ k, (lroundTo L d k).procs.length = L.procs.length
  | 0 => rfl
  | k + 1 => by
    unfold lroundTo
    split
    · exact lroundTo_len L d k
    · rw [lstep_len, lroundTo_len L d k]
def lrest (L : Lay) (m : Int) : Nat → Lay
  | 0 => L
  | r + 1 => lroundTo (lrest L m r) (m + r) L.procs.length
theorem lrest_len (L : Lay) (m : Int) : ∀ r, (lrest L m r).procs.length = L.procs.length
  | 0 => rfl
  | r + 1 => by unfold lrest; rw [lroundTo_len, lrest_len L m r]

theorem CRel.plen {c : Conf} {L : Lay} {P : PLay} (h : CRel c L P) : P.procs.length = L.procs.length := by rw [h.rel.procs, List.length_map]
theorem CRel.pphase {c : Conf} {L : Lay} {P : PLay} (h : CRel c L P) (k : Nat) (hk : k < L.procs.length) (hk' : k < P.procs.length) : (P.procs[k]).phase = (L.procs[k]).2.phase := by
  have : P.procs[k] = toPP (L.procs[k]).2 := by simp [h.rel.procs]
  rw [this]
  rfl

set_option maxHeartbeats 4000000 in
theorem pround_c {c : Conf} {w : World} {B : Nat} {L : Lay} {P : PLay} (hr : CRel c L P) (h : PRep w B P) (hB : B ≤ w.heap.size) (d : Int) (hd0 : 0 ≤ d) (hd : d ≤ 1000) :
    Calls Try.prog 90 #[.pointer (some ⟨P.tb, 0, none⟩), I d] w fun e w' => e = .returned (.tuple #[]) ∧ (∃ P', P'.tb = P.tb ∧ CRel c (lroundTo L d L.procs.length) P' ∧ PRep w' B P') ∧ ChgT B [78, 119, 135] w w' := by
  have hnp := hr.rel.np
  have HK : Hid (∀ (k : Nat) (P' : PLay) (wr : World), k < L.procs.length → CRel c (lroundTo L d k) P' → PRep wr B P' → P'.tb = P.tb →
      ∃ (g : Nat) (cap : Nat) (ph : Int), wr.cell? ⟨P.tb, 680, none⟩ = some (.slice (some ⟨g, 0, none⟩) L.procs.length cap) ∧ L.procs.length ≤ cap ∧ cap ≤ 2 ^ 63 - 1 ∧ wr.cell? ⟨g, k * 11 + 3, none⟩ = some (I ph) ∧
        (ph = 20 → CRel c (lroundTo L d (k + 1)) P') ∧ (ph ≠ 20 → B ≤ wr.heap.size → Calls Try.prog 81 #[.pointer (some ⟨P.tb, 0, none⟩), I k, I (d + k)] wr fun e w' => e = .returned (.tuple #[]) ∧ (∃ P'', P''.tb = P.tb ∧ CRel c (lroundTo L d (k + 1)) P'' ∧ PRep w' B P'') ∧ ChgT B [78, 119, 135] wr w')) := by
    intro k P' wr hk hc hp htb
    have hlL := lroundTo_len L d k
    have hlP := hc.plen
    obtain ⟨ao, cap, e1, q1, q2, q3, hx⟩ := hp.pp_at
    have p1 := hp.pcell
    have hkP : k < P'.procs.length := by omega
    have hkL : k < (lroundTo L d k).procs.length := by omega
    obtain ⟨g, rfl, hf⟩ := hx k hkP
    have hph := hc.pphase k hkL hkP
    have eg : (lroundTo L d k).procs.getD k (0, newPr ⟨0, 0, 0⟩) = (lroundTo L d k).procs[k] := by simp [List.getD_eq_getElem?_getD, List.getElem?_eq_getElem hkL]
    have el : P'.procs.length = L.procs.length := by omega
    rw [e1, el, htb] at p1
    refine ⟨g, cap, (P'.procs[k]).phase, p1, by omega, by unfold maxLen at q3; omega, hf 3 (by omega), fun h20 => ?_, fun h20 hBr => ?_⟩
    · unfold lroundTo
      rw [eg, if_pos (by rw [← hph]; exact h20)]
      exact hc
    · obtain ⟨ph, hp1, _, _⟩ := hc.next (Fr := fun _ => False) (B := B) hkL (by rw [← hph]; exact h20) (d + k)
      have := hp1.1 wr hp hBr
      rw [htb] at this
      refine this.mono ?_
      rintro e w' ⟨e0, ⟨P'', ⟨a, b⟩, y⟩, z⟩
      refine ⟨e0, ⟨P'', a, ?_, y⟩, z⟩
      unfold lroundTo
      rw [eg, if_neg (by rw [← hph]; exact h20)]
      exact b
  have HE : Hid (∀ (P' : PLay) (wr : World) (k : Nat), CRel c (lroundTo L d k) P' → PRep wr B P' → P'.tb = P.tb → ∃ ao cap, wr.cell? ⟨P.tb, 680, none⟩ = some (.slice ao L.procs.length cap)) := by
    intro P' wr k hc hp htb
    obtain ⟨ao, cap, e1, _⟩ := hp.pp_at
    have p1 := hp.pcell
    have hlL := lroundTo_len L d k
    have hlP := hc.plen
    have el : P'.procs.length = L.procs.length := by omega
    rw [e1, el, htb] at p1
    exact ⟨ao, cap, p1⟩
  have H0 : Hid (CRel c (lroundTo L d 0) P) := hr
  clear hr
  generalize hn : L.procs.length = np at *
  go_enter Try.func90, Try.ntmps90
  go_wp2_with fail
  go_loopw [4] (fun i wr => ∃ (k : Nat) (P' : PLay), k ≤ np ∧ i = .int .i64 k ∧ P'.tb = P.tb ∧ CRel c (lroundTo L d k) P' ∧ PRep wr B P' ∧ ChgT B [78, 119, 135] w wr) (fun i _ => np - (intOf i).toNat)
  case atStart => exact ⟨0, P, by omega, rfl, rfl, H0.out, h, ChgT.refl _ _ _⟩
  case round =>
    obtain ⟨k, P', hk, rfl, htb, hc, hp, hch⟩ := hrel
    have hBr : B ≤ wr.heap.size := Nat.le_trans hB hch.size
    by_cases hlt : k < np
    · obtain ⟨g, cap, ph, p1, p2, p3, c3, hd20, hst⟩ := HK.out k P' wr hlt hc hp htb
      by_cases h20 : ph = 20
      · have hc' := hd20 h20
        have b1 : (ph != 20) = false := by simp [h20]
        replace hc' : Hid _ := hc'
        replace hch : Hid _ := hch
        replace hp : Hid _ := hp
        replace htb : Hid _ := htb
        clear hd20 hst h20 hc
        go_wp2
        go_roundw
        case rel => exact ⟨k + 1, P', by omega, by go_num, htb.out, hc'.out, hp.out, hch.out⟩
        case measure => simp [intOf]; omega
      · have hcall := hst h20 hBr
        have b1 : (ph != 20) = true := by simp [h20]
        replace hcall : Hid _ := hcall
        replace hch : Hid _ := hch
        clear hd20 hst h20 hc hp htb
        go_wp2_with fail
        refine Calls.mono hcall.out ?_
        rintro e w' ⟨rfl, ⟨P'', t1, t2, t3⟩, t4⟩
        have hch2 := hch.out.trans t4
        replace t1 : Hid _ := t1
        replace t2 : Hid _ := t2
        replace t3 : Hid _ := t3
        replace hch2 : Hid _ := hch2
        clear hcall hch t4 p1 c3
        go_wp2
        go_roundw
        case rel => exact ⟨k + 1, P'', by omega, by go_num, t1.out, t2.out, t3.out, hch2.out⟩
        case measure => simp [intOf]; omega
    · have ek : k = np := by omega
      obtain ⟨ao, cap, p1⟩ := HE.out P' wr k hc hp htb
      subst ek
      replace hc : Hid _ := hc
      replace hch : Hid _ := hch
      replace hp : Hid _ := hp
      replace htb : Hid _ := htb
      go_wp2_with fail
      go_end0
      exact ⟨rfl, ⟨P', htb.out, hc.out, hp.out⟩, hch.out⟩

set_option maxHeartbeats 4000000 in
theorem prest_ok {c : Conf} {w : World} {B : Nat} {L : Lay} {P : PLay} (hr : CRel c L P) (h : PRep w B P) (hB : B ≤ w.heap.size) (r : Nat) (hr9 : r ≤ 100) (draw : Int) :
    Calls Try.prog 59 #[.pointer (some ⟨P.tb, 0, none⟩), I r, I draw] w fun e w' => e = .returned (.tuple #[I (liveL (lrest L (draw % 12) r).procs), I 0]) ∧ (∃ P', P'.tb = P.tb ∧ CRel c (lrest L (draw % 12) r) P' ∧ PRep w' B P') ∧ ChgT B [78, 119, 135] w w' := by
  have hm := fun W => modulo_c draw 12 (by omega) (by omega) W
  have m0 := Int.emod_nonneg draw (show (12 : Int) ≠ 0 by omega)
  have m1 := Int.emod_lt_of_pos draw (show (0 : Int) < 12 by omega)
  have hm' : ∀ W, Calls Try.prog 89 #[I draw, I 12] W fun e w' => e = .returned (I (draw % 12)) ∧ w' = W := hm
  clear hm
  have HR : Hid (∀ (k : Nat) (P' : PLay) (wr : World), k < r → CRel c (lrest L (draw % 12) k) P' → PRep wr B P' → P'.tb = P.tb → B ≤ wr.heap.size → Calls Try.prog 90 #[.pointer (some ⟨P.tb, 0, none⟩), I (draw % 12 + k)] wr fun e w' => e = .returned (.tuple #[]) ∧ (∃ P'', P''.tb = P.tb ∧ CRel c (lrest L (draw % 12) (k + 1)) P'' ∧ PRep w' B P'') ∧ ChgT B [78, 119, 135] wr w') := by
    intro k P' wr hk hc hp htb hBr
    have := pround_c hc hp hBr (draw % 12 + k) (by omega) (by omega)
    rw [htb, lrest_len] at this
    exact this
  have HL : Hid (∀ (P' : PLay) (wr : World), CRel c (lrest L (draw % 12) r) P' → PRep wr B P' → P'.tb = P.tb → Calls Try.prog 72 #[.pointer (some ⟨P.tb, 0, none⟩)] wr fun e w' => e = .returned (I (liveL (lrest L (draw % 12) r).procs)) ∧ w' = wr) := by
    intro P' wr hc hp htb
    have := plive_c hp
    rw [htb, plive_w hc.rel] at this
    exact this
  have H0 : Hid (CRel c (lrest L (draw % 12) 0) P) := hr
  replace hm' : Hid _ := hm'
  clear hr
  generalize draw % 12 = m at *
  have hrn : decide ((r : Int) < 0) = false := by simp
  have hr1 : decide ((100 : Int) < (r : Int)) = false := by simp; omega
  go_enter Try.func59, Try.ntmps59
  go_wp2_with fail
  refine Calls.mono (hm'.out _) ?_
  rintro e w1 ⟨rfl, rfl⟩
  clear hm'
  go_wp2_with fail
  go_loopw [9] (fun i wr => ∃ (k : Nat) (P' : PLay), k ≤ r ∧ i = .int .i64 k ∧ P'.tb = P.tb ∧ CRel c (lrest L m k) P' ∧ PRep wr B P' ∧ ChgT B [78, 119, 135] w1 wr) (fun i _ => r - (intOf i).toNat)
  case atStart => exact ⟨0, P, by omega, rfl, rfl, H0.out, h, ChgT.refl _ _ _⟩
  case round =>
    obtain ⟨k, P', hk, rfl, htb, hc, hp, hch⟩ := hrel
    have hBr : B ≤ wr.heap.size := Nat.le_trans hB hch.size
    by_cases hlt : k < r
    · have hcall := HR.out k P' wr hlt hc hp htb hBr
      replace hcall : Hid _ := hcall
      replace hch : Hid _ := hch
      clear hc hp htb
      go_wp2_with fail
      refine Calls.mono hcall.out ?_
      rintro e w' ⟨rfl, ⟨P'', t1, t2, t3⟩, t4⟩
      have hch2 := hch.out.trans t4
      replace t1 : Hid _ := t1
      replace t2 : Hid _ := t2
      replace t3 : Hid _ := t3
      replace hch2 : Hid _ := hch2
      clear hcall hch t4
      go_wp2
      go_roundw
      case rel => exact ⟨k + 1, P'', by omega, by go_num, t1.out, t2.out, t3.out, hch2.out⟩
      case measure => simp [intOf]; omega
    · have ek : k = r := by omega
      subst ek
      have hcall := HL.out P' wr hc hp htb
      replace hcall : Hid _ := hcall
      replace hc : Hid _ := hc
      replace hch : Hid _ := hch
      replace hp : Hid _ := hp
      replace htb : Hid _ := htb
      obtain ⟨lv, hlv⟩ : ∃ lv, lv = liveL (lrest L m k).procs := ⟨_, rfl⟩
      rw [← hlv] at hcall
      have HLV : Hid (lv = liveL (lrest L m k).procs) := hlv
      clear hlv
      go_wp2_with fail
      refine Calls.mono hcall.out ?_
      rintro e w' ⟨rfl, rfl⟩
      go_wp2
      go_ret2
      refine ⟨?_, ⟨P', htb.out, hc.out, hp.out⟩, hch.out⟩
      rw [← HLV.out]
      rfl

set_option maxHeartbeats 2000000 in
theorem prest_err {w : World} (tb : Nat) (a b : Int) (ha : a < 0 ∨ 100 < a) :
    Calls Try.prog 59 #[.pointer (some ⟨tb, 0, none⟩), I a, I b] w fun e w' => e = .returned (.tuple #[I 0, I 6]) ∧ w' = w := by
  by_cases h0 : a < 0
  · clear ha
    go_enter Try.func59, Try.ntmps59
    go_wp2
    go_ret2
    exact ⟨rfl, rfl⟩
  · have hd : decide (a < 0) = false := by simp; omega
    have h1 : 100 < a := by omega
    clear ha h0
    go_enter Try.func59, Try.ntmps59
    go_wp2
    go_ret2
    exact ⟨rfl, rfl⟩

set_option maxHeartbeats 2000000 in
theorem rrest_err {w : World} (tb : Nat) (a b : Int) (ha : a < 0 ∨ 100 < a) :
    Calls Try.prog 60 #[.pointer (some ⟨tb, 0, none⟩), I a, I b] w fun e w' => e = .returned (.tuple #[I 0, I 6]) ∧ w' = w := by
  by_cases h0 : a < 0
  · clear ha
    go_enter Try.func60, Try.ntmps60
    go_wp2
    go_ret2
    exact ⟨rfl, rfl⟩
  · have hd : decide (a < 0) = false := by simp; omega
    have h1 : 100 < a := by omega
    clear ha h0
    go_enter Try.func60, Try.ntmps60
    go_wp2
    go_ret2
    exact ⟨rfl, rfl⟩

/-- What is held in the midst of a Rest of the document: its tree is D but for the places of memory. -/
structure RSt (Fr : Nat → Prop) (wr : World) (B : Nat) (c : Conf) (tb : Nat) (D L' : Lay) : Prop where
  tb : L'.tb = tb
  same : Same D L'
  rel : ∃ P', CRel c L' P'
  rep : RefRep Fr wr B L'

set_option maxHeartbeats 8000000 in
theorem rrest_ok {c : Conf} {w : World} {B : Nat} {L : Lay} {P : PLay} (hr : CRel c L P) (h : RefRep Fr w B L) (hB : B ≤ w.heap.size) (r : Nat) (hr9 : r ≤ 100) (draw : Int) :
    Calls Try.prog 60 #[.pointer (some ⟨L.tb, 0, none⟩), I r, I draw] w fun e w' => e = .returned (.tuple #[I (liveL (lrest L (draw % 12) r).procs), I 0]) ∧ (∃ L', L'.tb = L.tb ∧ Same (lrest L (draw % 12) r) L' ∧ RefRep Fr w' B L') ∧ ChgT B [136, 125, 128] w w' := by
  have hm := fun W => remainder_c draw 12 (by omega) (by omega) W
  have hnp := hr.rel.np
  have m0 := Int.emod_nonneg draw (show (12 : Int) ≠ 0 by omega)
  have m1 := Int.emod_lt_of_pos draw (show (0 : Int) < 12 by omega)
  have hm' : ∀ W, Calls Try.prog 91 #[I draw, I 12] W fun e w' => e = .returned (I (draw % 12)) ∧ w' = W := hm
  clear hm
  have HLEN : Hid (∀ D L' wr, RSt Fr wr B c L.tb D L' → D.procs.length = L.procs.length → ∃ ao cap, wr.cell? ⟨L.tb, 8, none⟩ = some (.slice ao L.procs.length cap)) := by
    intro D L' wr hs hl
    have h1 := hs.rep.pv_cell
    obtain ⟨ao, cap, e1, _⟩ := hs.rep.proc_at
    have hl' := (snds_at hs.same.procs).1
    rw [e1, show L'.procs.length = L.procs.length from by omega, hs.tb] at h1
    exact ⟨ao, cap, h1⟩
  have HST : Hid (∀ (D L' : Lay) (wr : World) (j k : Nat), RSt Fr wr B c L.tb (lroundTo D (draw % 12 + j) k) L' → D.procs.length = L.procs.length → k < L.procs.length → B ≤ wr.heap.size →
      Calls Try.prog 58 #[.pointer (some ⟨L.tb, 0, none⟩), I k, I (draw % 12 + j + k)] wr fun e w' => (∃ a b, e = .returned (.tuple #[I a, I b])) ∧ (∃ L'', RSt Fr w' B c L.tb (lroundTo D (draw % 12 + j) (k + 1)) L'') ∧ ChgT B [136, 125, 128] wr w') := by
    intro D L' wr j k hs hl hk hBr
    obtain ⟨P', hP'⟩ := hs.rel
    obtain ⟨sl, sg⟩ := snds_at hs.same.procs
    have hlD := lroundTo_len D (draw % 12 + j) k
    have hkD : k < (lroundTo D (draw % 12 + j) k).procs.length := by omega
    have hkL : k < L'.procs.length := by omega
    have eph := sg k hkD hkL
    have eg : (lroundTo D (draw % 12 + j) k).procs.getD k (0, newPr ⟨0, 0, 0⟩) = (lroundTo D (draw % 12 + j) k).procs[k] := by simp [List.getD_eq_getElem?_getD, List.getElem?_eq_getElem hkD]
    by_cases h20 : (L'.procs[k]).2.phase = 20
    · have := rStep_done hs.rep (hs.rep.procAt hkL) h20 (draw % 12 + j + k)
      rw [hs.tb] at this
      refine this.mono ?_
      rintro e w' ⟨rfl, hb⟩
      refine ⟨⟨0, 5, rfl⟩, ⟨L', hs.tb, ?_, hs.rel, hs.rep.below hb⟩, ChgT.of_below hb⟩
      unfold lroundTo
      rw [eg, if_pos (by rw [← eph]; exact h20)]
      exact hs.same
    · obtain ⟨ph, _, hp2, ⟨P'', hP''⟩⟩ := hP'.next (Fr := Fr) (B := B) hkL h20 (draw % 12 + j + k)
      have := hp2 wr hs.rep hBr
      rw [hs.tb] at this
      refine this.mono ?_
      rintro e w' ⟨rfl, ⟨L'', ⟨a, b⟩, y⟩, z⟩
      refine ⟨⟨ph, 0, rfl⟩, ⟨L'', a, ?_, ⟨P'', hP''.same b⟩, y⟩, z⟩
      unfold lroundTo
      rw [eg, if_neg (by rw [← eph]; exact h20)]
      exact (lstep_same hs.same k _).trans b
  have HLV : Hid (∀ (L' : Lay) (wr : World), RSt Fr wr B c L.tb (lrest L (draw % 12) r) L' → Calls Try.prog 92 #[.pointer (some ⟨L.tb, 0, none⟩)] wr fun e w' => e = .returned (I (liveL (lrest L (draw % 12) r).procs)) ∧ w' = wr) := by
    intro L' wr hs
    have := live_c hs.rep
    rw [hs.tb, live_same hs.same.procs] at this
    exact this
  have HRL : Hid (∀ j, (lrest L (draw % 12) j).procs.length = L.procs.length) := lrest_len L (draw % 12)
  have HRS : Hid (∀ j, lroundTo (lrest L (draw % 12) j) (draw % 12 + j) L.procs.length = lrest L (draw % 12) (j + 1)) := fun j => rfl
  have H0 : Hid (RSt Fr w B c L.tb (lrest L (draw % 12) 0) L) := ⟨rfl, Same.refl _, ⟨P, hr⟩, h⟩
  replace hm' : Hid _ := hm'
  clear hr h
  generalize draw % 12 = m at *
  have hrn : decide ((r : Int) < 0) = false := by simp
  have hr1 : decide ((100 : Int) < (r : Int)) = false := by simp; omega
  generalize hn : L.procs.length = np at *
  go_enter Try.func60, Try.ntmps60
  go_wp2_with fail
  refine Calls.mono (hm'.out _) ?_
  rintro e w1 ⟨rfl, rfl⟩
  clear hm'
  go_wp2_with fail
  go_loopw [9, 10] (fun i _ wr => ∃ (k : Nat) (L' : Lay), k ≤ r ∧ i = .int .i64 k ∧ RSt Fr wr B c L.tb (lrest L m k) L' ∧ ChgT B [136, 125, 128] w1 wr) (fun i _ _ => r - (intOf i).toNat)
  case atStart => exact ⟨0, L, by omega, rfl, H0.out, ChgT.refl _ _ _⟩
  case round =>
    obtain ⟨j, L', hj, rfl, hs, hch⟩ := hrel
    have hBr : B ≤ wr.heap.size := Nat.le_trans hB hch.size
    by_cases hlt : j < r
    · have HD := HRL.out j
      have HT := HRS.out j
      have H1 : Hid (RSt Fr wr B c L.tb (lroundTo (lrest L m j) (m + j) 0) L') := hs
      replace HD : Hid _ := HD
      replace HT : Hid _ := HT
      clear hs
      generalize lrest L m j = D at *
      go_wp2_with fail
      go_loopw [10] (fun i wr2 => ∃ (k : Nat) (L'' : Lay), k ≤ np ∧ i = .int .i64 k ∧ RSt Fr wr2 B c L.tb (lroundTo D (m + j) k) L'' ∧ ChgT B [136, 125, 128] w1 wr2) (fun i _ => np - (intOf i).toNat)
      case atStart => exact ⟨0, L', by omega, rfl, H1.out, hch⟩
      case round =>
        obtain ⟨k, L'', hk, rfl, hs2, hch2⟩ := hrel
        have hBr2 : B ≤ wr.heap.size := Nat.le_trans hB hch2.size
        by_cases hlt2 : k < np
        · obtain ⟨ao, cap, p1⟩ := HLEN.out _ L'' _ hs2 (by rw [lroundTo_len]; exact HD.out)
          have hcall := HST.out D L'' _ j k hs2 HD.out hlt2 hBr2
          replace hcall : Hid _ := hcall
          replace hch2 : Hid _ := hch2
          clear hs2 H1 hch
          go_wp2_with fail
          refine Calls.mono hcall.out ?_
          rintro e w' ⟨⟨a, b, rfl⟩, ⟨L3, t1⟩, t4⟩
          have hch3 := hch2.out.trans t4
          replace t1 : Hid _ := t1
          replace hch3 : Hid _ := hch3
          clear hcall hch2 t4 p1
          go_wp2
          go_roundw
          case rel => exact ⟨k + 1, L3, by omega, by go_num, t1.out, hch3.out⟩
          case measure => simp [intOf]; omega
        · have ek : k = np := by omega
          obtain ⟨ao, cap, p1⟩ := HLEN.out _ L'' _ hs2 (by rw [lroundTo_len]; exact HD.out)
          subst ek
          rw [HT.out] at hs2
          replace hs2 : Hid _ := hs2
          replace hch2 : Hid _ := hch2
          clear H1 hch
          go_wp2_with fail
          go_roundw
          case rel => exact ⟨j + 1, L'', by omega, by go_num, hs2.out, hch2.out⟩
          case measure => simp [intOf]; omega
    · have ek : j = r := by omega
      subst ek
      have hcall := HLV.out L' wr hs
      replace hcall : Hid _ := hcall
      replace hch : Hid _ := hch
      replace hs : Hid _ := hs
      obtain ⟨lv, hlv⟩ : ∃ lv, lv = liveL (lrest L m j).procs := ⟨_, rfl⟩
      rw [← hlv] at hcall
      have HLV2 : Hid (lv = liveL (lrest L m j).procs) := hlv
      clear hlv
      go_wp2_with fail
      refine Calls.mono hcall.out ?_
      rintro e w' ⟨rfl, rfl⟩
      go_wp2
      go_ret2
      refine ⟨?_, ⟨L', hs.out.tb, hs.out.same, hs.out.rep⟩, hch.out⟩
      rw [← HLV2.out]
      rfl

end Go.Proofs.Ytjnmpejcegmkhaa

namespace Go.Proofs.Ytjnmpejcegmkhaa
open Go.RowKit
variable {Fr : Nat → Prop}

structure ASt (Fr : Nat → Prop) (w : World) (B : Nat) (c : Conf) (lb : Nat) (L : Lay) (P : PLay) (K : Kp) : Prop where
  ak : AK w B lb (.pointer (some ⟨P.tb, 0, none⟩)) (.pointer (some ⟨L.tb, 0, none⟩)) K
  ref : RefRep Fr w B L
  prog : PRep w B P
  rel : CRel c L P
  hB : B ≤ w.heap.size
  mF : ∀ g, K.xm.ownBlock = some g → Fr g
theorem ASt.below {w w' : World} {B : Nat} {c : Conf} {lb : Nat} {L : Lay} {P : PLay} {K : Kp} (h : ASt Fr w B c lb L P K) (hb : Below w.heap.size w w') : ASt Fr w' B c lb L P K :=
  ⟨h.ak.below hb, h.ref.below hb, h.prog.below hb, h.rel, Nat.le_trans h.hB hb.size, h.mF⟩
theorem ASt.lawRep {w : World} {B : Nat} {c : Conf} {lb : Nat} {L : Lay} {P : PLay} {K : Kp} (h : ASt Fr w B c lb L P K) : LawRep w lb (.pointer (some ⟨P.tb, 0, none⟩)) L.tb := ⟨⟨_, _, _, _, h.ak.law⟩, ⟨_, _, rfl⟩⟩

set_option maxHeartbeats 4000000 in
theorem astep_seven {w : World} {B : Nat} {c : Conf} {lb : Nat} {L : Lay} {P : PLay} {K : Kp} (h : ASt Fr w B c lb L P K) (a b : Int) :
    Calls Try.prog 33 #[.pointer (some ⟨lb, 0, none⟩), .agg #[I 7, I a, I b]] w fun e w' => e = .returned (.bool true) ∧ Below w.heap.size w w' := by
  have hc := fun W (hb : Below w.heap.size w W) => sameProc_agree (h.below hb).lawRep (h.below hb).ref (h.rel.rel.agree h.rel.ck.si (h.below hb).prog) a
  replace hc : Hid _ := hc
  clear h
  go_enter Try.func33, Try.ntmps33
  go_wp2_with fail
  refine (hc.out _ ((Below.refl _ _).alloc (Nat.le_refl _) _)).mono ?_
  rintro e w1 ⟨rfl, hb1⟩
  go_wp2
  go_ret
  exact ⟨rfl, ((Below.refl _ _).alloc (Nat.le_refl _) _).trans (hb1.mono (by simp))⟩

set_option maxHeartbeats 4000000 in
theorem astep_eleven {w : World} {B : Nat} {c : Conf} {lb : Nat} {L : Lay} {P : PLay} {K : Kp} (h : ASt Fr w B c lb L P K) (a b : Int) :
    Calls Try.prog 33 #[.pointer (some ⟨lb, 0, none⟩), .agg #[I 11, I a, I b]] w fun e w' => e = .returned (.bool true) ∧ Below w.heap.size w w' := by
  have hlen : 1 ≤ L.past.length := by have := h.rel.rel.lenle; omega
  have hc := fun W (hb : Below w.heap.size w W) => agrees_c (h.below hb).lawRep (h.below hb).ref h.rel.rel.ok hlen (h.rel.rel.agree h.rel.ck.si (h.below hb).prog)
  replace hc : Hid _ := hc
  clear h
  go_enter Try.func33, Try.ntmps33
  go_wp2_with fail
  refine (hc.out _ ((Below.refl _ _).alloc (Nat.le_refl _) _)).mono ?_
  rintro e w1 ⟨rfl, hb1⟩
  go_wp2
  go_ret
  exact ⟨rfl, ((Below.refl _ _).alloc (Nat.le_refl _) _).trans (hb1.mono (by simp))⟩

end Go.Proofs.Ytjnmpejcegmkhaa

namespace Go.Proofs.Ytjnmpejcegmkhaa
open Go.RowKit
variable {Fr : Nat → Prop}

set_option maxHeartbeats 8000000 in
theorem astep_spawn {w : World} {B : Nat} {c : Conf} {lb : Nat} {L : Lay} {P : PLay} {K : Kp} (h : ASt Fr w B c lb L P K) (k a b : Int) (hk : k = 1 ∨ k = 2 ∨ k = 3 ∨ k = 4 ∨ k = 5 ∨ k = 6) :
    Calls Try.prog 33 #[.pointer (some ⟨lb, 0, none⟩), .agg #[I k, I a, I b]] w fun e w' => e = .returned (.bool true) ∧ (∃ L' P', ASt Fr w' B c lb L' P' K) ∧ Below B w w' := by
  have hw := fun W => wanted_c k a b hk W
  have b7 : (k == 7) = false := by simp; omega
  have b8 : (k == 8) = false := by simp; omega
  have b9 : (k == 9) = false := by simp; omega
  have b10 : (k == 10) = false := by simp; omega
  have b11 : (k == 11) = false := by simp; omega
  have hs := cspawn_both (Fr := Fr) (B := B) h.rel (wantOp k a b)
  have f0 : w.cell? ⟨lb, 0, none⟩ = some (.pointer (some ⟨P.tb, 0, none⟩)) := h.lawRep.c0
  have f1 : w.cell? ⟨lb, 1, none⟩ = some (.pointer (some ⟨L.tb, 0, none⟩)) := h.lawRep.c1
  have l0 := cell_lt f0
  have hB := h.hB
  unfold opV at hw hs
  replace hw : Hid _ := hw
  generalize hop : wantOp k a b = o at *
  clear hop hk
  obtain ⟨ok, ov, on⟩ := o
  simp only at hw hs
  rcases hs with ⟨e0, hp, hr⟩ | ⟨hlim, hp, hr⟩
  · replace hp : Hid _ := hp
    replace hr : Hid _ := hr
    go_enter Try.func33, Try.ntmps33
    go_wp2_with fail
    refine (hw.out _).mono ?_
    rintro e w1 ⟨rfl, hb1⟩
    have hb2 : Below w.heap.size w w1 := ((Below.refl _ _).alloc (Nat.le_refl _) _).trans (hb1.mono (by simp))
    have g0 := (hb2.cell (p := ⟨lb, 0, none⟩) l0).trans f0
    have l1 : lb < w1.heap.size := Nat.lt_of_lt_of_le l0 hb2.size
    clear hb1 hw
    go_wp2_with fail
    go_region_with (go_at_call 40; refine (hp.out _ (h.below ((hb2.alloc hb2.size _).drew)).prog).mono ?_; rintro e w2 ⟨rfl, hb3⟩)
    all_goals
      have hb4 : Below w.heap.size w w2 := ((hb2.alloc hb2.size _).drew).trans (hb3.mono (by show w.heap.size ≤ (w1.alloc _).heap.size; simp; exact Nat.le_succ_of_le hb2.size))
      have nx : w2.heap[w1.heap.size]? = some (.cells #[I ok, I ov, I on] 33 (0, 0)) := (hb3.block _ (by show w1.heap.size < (w1.alloc _).heap.size; simp)).trans (nb_alloc _ _ _)
      have g1 := (hb4.cell (p := ⟨lb, 1, none⟩) l0).trans f1
      obtain ⟨x1, _⟩ := nb_facts nx
      clear hb3
      go_wp2_with fail
      go_region_with (go_at_call 64; refine (hr.out _ (h.below hb4.drew).ref).mono ?_; rintro e w3 ⟨rfl, hb5⟩)
      all_goals
        have hb6 : Below w.heap.size w w3 := hb4.drew.trans (hb5.mono hb4.size)
        clear hb5
        go_wp2
        go_ret
        exact ⟨rfl, ⟨L, P, h.below hb6⟩, hb6.mono hB⟩
  · replace hp : Hid _ := hp
    replace hr : Hid _ := hr
    go_enter Try.func33, Try.ntmps33
    go_wp2_with fail
    refine (hw.out _).mono ?_
    rintro e w1 ⟨rfl, hb1⟩
    have hb2 : Below w.heap.size w w1 := ((Below.refl _ _).alloc (Nat.le_refl _) _).trans (hb1.mono (by simp))
    have g0 := (hb2.cell (p := ⟨lb, 0, none⟩) l0).trans f0
    have l1 : lb < w1.heap.size := Nat.lt_of_lt_of_le l0 hb2.size
    clear hb1 hw
    go_wp2_with fail
    go_region_with (go_at_call 40; refine (hp.out _ (h.below ((hb2.alloc hb2.size _).drew)).prog (h.below ((hb2.alloc hb2.size _).drew)).hB).mono ?_; rintro e w2 ⟨rfl, ⟨y, hpr⟩, hc2⟩)
    all_goals
      have hbx := (hb2.alloc hb2.size (.cells #[I ok, I ov, I on] 33)).drew
      have h2 := h.below hbx
      have nx : w2.heap[w1.heap.size]? = some (.cells #[I ok, I ov, I on] 33 (0, 0)) := hc2.at (nb_alloc _ _ _) (by decide)
      have hlw := h2.ak.chg hc2 (by decide) (by decide) (by decide) (by decide) (by decide)
      have hrf := h2.ref.chg hc2 (by decide) (by decide) (by decide) (by decide) (by decide) (by decide)
      have hB2 : B ≤ w2.heap.size := Nat.le_trans h2.hB hc2.size
      have g1 : w2.cell? ⟨lb, 1, none⟩ = some (.pointer (some ⟨L.tb, 0, none⟩)) := by rw [block_cell hlw.law]; rfl
      have hbB := (hbx.mono hB).trans (hc2.below h2.hB)
      obtain ⟨x1, _⟩ := nb_facts nx
      replace hlw : Hid _ := hlw
      clear hc2 h2
      go_wp2_with fail
      go_region_with (go_at_call 64; refine (hr.out _ (hrf.below (Below.refl _ _).drew) hB2).mono ?_; rintro e w3 ⟨rfl, ⟨nb, z, hrr⟩, hc3⟩)
      all_goals
        have hc4 : ChgT B [110, 129] w2 w3 := ⟨hc3.os, hc3.tape, hc3.output, hc3.size, hc3.block⟩
        have hlw3 := hlw.out.chg hc4 (by decide) (by decide) (by decide) (by decide) (by decide)
        have hp3 := hpr.chg hc4 (by decide) (by decide) (by decide)
        have hbB3 := hbB.trans (hc4.below hB2)
        have hB3 : B ≤ w3.heap.size := Nat.le_trans hB2 hc4.size
        have hrel := h.rel.push ⟨ok, ov, on⟩ hlim.1 nb z y hlim.2.1 hlim.2.2
        replace hlw3 : Hid _ := hlw3
        clear hc3 hc4
        go_wp2
        go_ret
        exact ⟨rfl, ⟨{ L with pv := z, procs := L.procs ++ [(nb, newPr ⟨ok, ov, on⟩)] }, { P with pv := y, procs := P.procs ++ [newPP ⟨ok, ov, on⟩] }, ⟨hlw3.out, hrr, hp3, hrel, hB3, h.mF⟩⟩, hbB3⟩

end Go.Proofs.Ytjnmpejcegmkhaa

namespace Go.Proofs.Ytjnmpejcegmkhaa
open Go.RowKit
variable {Fr : Nat → Prop}

set_option maxHeartbeats 8000000 in
set_option maxRecDepth 100000 in
theorem astep_rest {w : World} {B : Nat} {c : Conf} {lb : Nat} {L : Lay} {P : PLay} {K : Kp} (h : ASt Fr w B c lb L P K) (a b : Int) :
    Calls Try.prog 33 #[.pointer (some ⟨lb, 0, none⟩), .agg #[I 9, I a, I b]] w fun e w' => e = .returned (.bool true) ∧ (∃ L' P', ASt Fr w' B c lb L' P' K) ∧ Below B w w' := by
  have f0 : w.cell? ⟨lb, 0, none⟩ = some (.pointer (some ⟨P.tb, 0, none⟩)) := h.lawRep.c0
  have f1 : w.cell? ⟨lb, 1, none⟩ = some (.pointer (some ⟨L.tb, 0, none⟩)) := h.lawRep.c1
  have l0 := cell_lt f0
  have hB := h.hB
  have hba : Below w.heap.size w (w.alloc (.cells #[I 9, I a, I b] 64)) := (Below.refl _ _).alloc (Nat.le_refl _) _
  have noa : (w.alloc (.cells #[I 9, I a, I b] 64)).heap[w.heap.size]? = some (.cells #[I 9, I a, I b] 64 (0, 0)) := nb_alloc _ _ _
  by_cases hs : a < 0 ∨ 100 < a
  · have hp := fun (W : World) => prest_err (w := W) P.tb a b hs
    have hr := fun (W : World) => rrest_err (w := W) L.tb a b hs
    replace hp : Hid _ := hp
    replace hr : Hid _ := hr
    clear hs
    go_enter Try.func33, Try.ntmps33
    go_wp2_with fail
    go_cut [9, 10] (fun s5 s6 wx => s5 = I 0 ∧ s6 = I 6 ∧ Below (w.alloc (.cells #[I 9, I a, I b] 64)).heap.size (w.alloc (.cells #[I 9, I a, I b] 64)) wx)
    case first =>
      go_region_with (go_at_call 59; refine (hp.out _).mono ?_; rintro e w1 ⟨rfl, rfl⟩)
      all_goals
        go_wp2_with fail
        go_meet
        exact ⟨rfl, rfl, (Below.refl _ _).drew⟩
    case rest =>
      obtain ⟨rfl, rfl, hb1⟩ := hcut
      have hb2 : Below w.heap.size w wc := hba.trans (hb1.mono (by simp))
      have nx : wc.heap[w.heap.size]? = some (.cells #[I 9, I a, I b] 64 (0, 0)) := (hb1.block _ (by simp)).trans noa
      have g1 := (hb2.cell (p := ⟨lb, 1, none⟩) l0).trans f1
      obtain ⟨x1, _⟩ := nb_facts nx
      clear hb1
      go_wp2_with fail
      go_region_with (go_at_call 60; refine (hr.out _).mono ?_; rintro e w2 ⟨rfl, rfl⟩)
      all_goals
        go_wp2
        go_ret
        exact ⟨rfl, ⟨L, P, h.below hb2.drew⟩, hb2.drew.mono hB⟩
  · obtain ⟨r, hra⟩ := Int.eq_ofNat_of_zero_le (by omega : 0 ≤ a)
    subst hra
    have hp := fun (W : World) (hW : PRep W B P) (hBW : B ≤ W.heap.size) => prest_ok h.rel hW hBW r (by omega) b
    have hr := fun (W : World) (hW : RefRep Fr W B L) (hBW : B ≤ W.heap.size) => rrest_ok h.rel hW hBW r (by omega) b
    replace hp : Hid _ := hp
    replace hr : Hid _ := hr
    generalize liveL (lrest L (b % 12) r).procs = lv at *
    generalize lrest L (b % 12) r = D at *
    clear hs
    go_enter Try.func33, Try.ntmps33
    go_wp2_with fail
    go_cut [9, 10] (fun s5 s6 wx => s5 = I lv ∧ s6 = I 0 ∧ (∃ P', P'.tb = P.tb ∧ CRel c D P' ∧ PRep wx B P') ∧ ChgT B [78, 119, 135] (w.alloc (.cells #[I 9, I r, I b] 64)) wx)
    case first =>
      go_region_with (go_at_call 59; refine (hp.out _ (h.below hba.drew).prog (h.below hba.drew).hB).mono ?_; rintro e w1 ⟨rfl, hpr, hc1⟩)
      all_goals
        go_wp2_with fail
        go_meet
        exact ⟨rfl, rfl, hpr, ⟨hc1.os, hc1.tape, hc1.output, hc1.size, hc1.block⟩⟩
    case rest =>
      obtain ⟨rfl, rfl, ⟨P2, htP, hcr, hpr⟩, hc1⟩ := hcut
      have h1 := h.below hba
      have nx : wc.heap[w.heap.size]? = some (.cells #[I 9, I r, I b] 64 (0, 0)) := hc1.at noa (by decide)
      have hlw := h1.ak.chg hc1 (by decide) (by decide) (by decide) (by decide) (by decide)
      have hrf := h1.ref.chg hc1 (by decide) (by decide) (by decide) (by decide) (by decide) (by decide)
      have hB1 : B ≤ wc.heap.size := Nat.le_trans h1.hB hc1.size
      have g1 : wc.cell? ⟨lb, 1, none⟩ = some (.pointer (some ⟨L.tb, 0, none⟩)) := by rw [block_cell hlw.law]; rfl
      have hbB := (hba.mono hB).trans (hc1.below h1.hB)
      obtain ⟨x1, _⟩ := nb_facts nx
      replace hlw : Hid _ := hlw
      replace htP : Hid _ := htP
      replace hcr : Hid _ := hcr
      clear hc1 h1
      go_wp2_with fail
      go_region_with (go_at_call 60; refine (hr.out _ (hrf.below (Below.refl _ _).drew) hB1).mono ?_; rintro e w2 ⟨rfl, ⟨L2, htL, hsm, hrr⟩, hc2⟩)
      all_goals
        have hc3 : ChgT B [136, 125, 128] wc w2 := ⟨hc2.os, hc2.tape, hc2.output, hc2.size, hc2.block⟩
        have hlw2 := hlw.out.chg hc3 (by decide) (by decide) (by decide) (by decide) (by decide)
        have hp2 := hpr.chg hc3 (by decide) (by decide) (by decide)
        have hbB2 := hbB.trans (hc3.below hB1)
        have hB2 : B ≤ w2.heap.size := Nat.le_trans hB1 hc3.size
        rw [← htP.out, ← htL] at hlw2
        replace hlw2 : Hid _ := hlw2
        have hrel2 := hcr.out.same hsm
        replace htL : Hid _ := htL
        clear hc2 hc3
        go_wp2
        go_ret
        exact ⟨rfl, ⟨L2, P2, ⟨hlw2.out, hrr, hp2, hrel2, hB2, h.mF⟩⟩, hbB2⟩

end Go.Proofs.Ytjnmpejcegmkhaa

namespace Go.Proofs.Ytjnmpejcegmkhaa
open Go.RowKit
variable {Fr : Nat → Prop}

set_option maxHeartbeats 8000000 in
set_option maxRecDepth 100000 in
theorem astep_step {w : World} {B : Nat} {c : Conf} {lb : Nat} {L : Lay} {P : PLay} {K : Kp} (h : ASt Fr w B c lb L P K) (a b : Int) :
    Calls Try.prog 33 #[.pointer (some ⟨lb, 0, none⟩), .agg #[I 8, I a, I b]] w fun e w' => e = .returned (.bool true) ∧ (∃ L' P', ASt Fr w' B c lb L' P' K) ∧ Below B w w' := by
  have hs := cstep_both (Fr := Fr) (B := B) h.rel a b
  have f0 : w.cell? ⟨lb, 0, none⟩ = some (.pointer (some ⟨P.tb, 0, none⟩)) := h.lawRep.c0
  have f1 : w.cell? ⟨lb, 1, none⟩ = some (.pointer (some ⟨L.tb, 0, none⟩)) := h.lawRep.c1
  have l0 := cell_lt f0
  have hB := h.hB
  have hba : Below w.heap.size w (w.alloc (.cells #[I 8, I a, I b] 64)) := (Below.refl _ _).alloc (Nat.le_refl _) _
  have noa : (w.alloc (.cells #[I 8, I a, I b] 64)).heap[w.heap.size]? = some (.cells #[I 8, I a, I b] 64 (0, 0)) := nb_alloc _ _ _
  rcases hs with ⟨hp, hr⟩ | ⟨i, rfl, ph, FP, FL, hrel, htP, htL, _, hp, hr⟩
  · replace hp : Hid _ := hp
    replace hr : Hid _ := hr
    go_enter Try.func33, Try.ntmps33
    go_wp2_with fail
    go_cut [5, 6] (fun s5 s6 wx => s5 = I 0 ∧ s6 = I 5 ∧ Below (w.alloc (.cells #[I 8, I a, I b] 64)).heap.size (w.alloc (.cells #[I 8, I a, I b] 64)) wx)
    case first =>
      go_region_with (go_at_call 57; refine (hp.out _ (h.below hba.drew).prog).mono ?_; rintro e w1 ⟨rfl, hb1⟩)
      all_goals
        go_wp2_with fail
        go_meet
        exact ⟨rfl, rfl, (Below.refl _ _).drew.trans hb1⟩
    case rest =>
      obtain ⟨rfl, rfl, hb1⟩ := hcut
      have hb2 : Below w.heap.size w wc := hba.trans (hb1.mono (by simp))
      have nx : wc.heap[w.heap.size]? = some (.cells #[I 8, I a, I b] 64 (0, 0)) := (hb1.block _ (by simp)).trans noa
      have g1 := (hb2.cell (p := ⟨lb, 1, none⟩) l0).trans f1
      obtain ⟨x1, _⟩ := nb_facts nx
      clear hb1
      go_wp2_with fail
      go_region_with (go_at_call 58; refine (hr.out _ (h.below hb2.drew).ref).mono ?_; rintro e w2 ⟨rfl, hb3⟩)
      all_goals
        have hb4 : Below w.heap.size w w2 := hb2.drew.trans (hb3.mono hb2.size)
        clear hb3
        go_wp2
        go_ret
        exact ⟨rfl, ⟨L, P, h.below hb4⟩, hb4.mono hB⟩
  · replace hp : Hid _ := hp.2
    replace hr : Hid _ := hr
    have HR : Hid _ := hrel
    have HTP : Hid _ := htP
    have HTL : Hid _ := htL
    clear hrel htP htL
    go_enter Try.func33, Try.ntmps33
    go_wp2_with fail
    go_cut [5, 6] (fun s5 s6 wx => s5 = I ph ∧ s6 = I 0 ∧ (∃ P', FP P' ∧ PRep wx B P') ∧ ChgT B [78, 119, 135] (w.alloc (.cells #[I 8, I i, I b] 64)) wx)
    case first =>
      go_region_with (go_at_call 57; refine (hp.out _ (h.below hba.drew).prog (h.below hba.drew).hB).mono ?_; rintro e w1 ⟨rfl, hpr, hc1⟩)
      all_goals
        go_wp2_with fail
        go_meet
        exact ⟨rfl, rfl, hpr, ⟨hc1.os, hc1.tape, hc1.output, hc1.size, hc1.block⟩⟩
    case rest =>
      obtain ⟨rfl, rfl, ⟨P2, hFP, hpr⟩, hc1⟩ := hcut
      have h1 := h.below hba
      have nx : wc.heap[w.heap.size]? = some (.cells #[I 8, I i, I b] 64 (0, 0)) := hc1.at noa (by decide)
      have hlw := h1.ak.chg hc1 (by decide) (by decide) (by decide) (by decide) (by decide)
      have hrf := h1.ref.chg hc1 (by decide) (by decide) (by decide) (by decide) (by decide) (by decide)
      have hB1 : B ≤ wc.heap.size := Nat.le_trans h1.hB hc1.size
      have g1 : wc.cell? ⟨lb, 1, none⟩ = some (.pointer (some ⟨L.tb, 0, none⟩)) := by rw [block_cell hlw.law]; rfl
      have hbB := (hba.mono hB).trans (hc1.below h1.hB)
      obtain ⟨x1, _⟩ := nb_facts nx
      replace hlw : Hid _ := hlw
      clear hc1 h1
      go_wp2_with fail
      go_region_with (go_at_call 58; refine (hr.out _ (hrf.below (Below.refl _ _).drew) hB1).mono ?_; rintro e w2 ⟨rfl, ⟨L2, hFL, hrr⟩, hc2⟩)
      all_goals
        have hc3 : ChgT B [136, 125, 128] wc w2 := ⟨hc2.os, hc2.tape, hc2.output, hc2.size, hc2.block⟩
        have hlw2 := hlw.out.chg hc3 (by decide) (by decide) (by decide) (by decide) (by decide)
        have hp2 := hpr.chg hc3 (by decide) (by decide) (by decide)
        have hbB2 := hbB.trans (hc3.below hB1)
        have hB2 : B ≤ w2.heap.size := Nat.le_trans hB1 hc3.size
        rw [← HTP.out P2 hFP, ← HTL.out L2 hFL] at hlw2
        replace hlw2 : Hid _ := hlw2
        have hrel2 := HR.out L2 P2 hFL hFP
        clear hc2 hc3
        go_wp2
        go_ret
        exact ⟨rfl, ⟨L2, P2, ⟨hlw2.out, hrr, hp2, hrel2, hB2, h.mF⟩⟩, hbB2⟩

end Go.Proofs.Ytjnmpejcegmkhaa

namespace Go.Proofs.Ytjnmpejcegmkhaa
open Go.RowKit
variable {Fr : Nat → Prop}

/-- A list that is being written: none, or a block of its own. -/
def FillO (w0 wr : World) (ao : Option Addr) (cap : Nat) (m : Int) (k : Nat) : Prop :=
  (ao = none ∧ cap = 0 ∧ wr.heap = w0.heap ∧ wr.os = w0.os ∧ wr.tape = w0.tape ∧ wr.output = w0.output) ∨ ∃ g, ao = some ⟨g, 0, none⟩ ∧ Filling w0 wr g cap m k

theorem FillO.chg {w0 wr : World} {ao : Option Addr} {n cap : Nat} {m : Int} {k : Nat} (h : FillO w0 wr ao cap m k) : ChgS (fun j => (Value.slice ao n cap).ownBlock = some j) w0 wr := by
  rcases h with ⟨rfl, _, e, e1, e2, e3⟩ | ⟨g, rfl, h⟩
  · exact ⟨e1, e2, e3, by rw [e]; exact Nat.le_refl _, fun k _ _ => by rw [e]⟩
  · exact ⟨h.os, h.tape, h.output, by rw [h.size]; exact Nat.le_refl _, fun k _ hs => h.other k fun e => hs (by subst e; rfl)⟩
theorem FillO.full {w0 wr : World} {ao : Option Addr} {cap : Nat} {m : Int} (h : FillO w0 wr ao cap m cap) {B : Nat} (hB : ∀ g, ao = some ⟨g, 0, none⟩ → B ≤ g) (hc : cap ≤ maxLen) : FullL wr B (.slice ao cap cap) m := by
  rcases h with ⟨rfl, rfl, _⟩ | ⟨g, rfl, h⟩
  · exact ⟨none, 0, rfl, World.ownsRow_nil _ _ _ _⟩
  · exact ⟨_, cap, rfl, h.full (hB g rfl) hc⟩

theorem row_form {w : World} {B : Nat} {l : Value} {n : Nat} {ys : List Value} (h : w.ownsRow B 3 1 l n ys) : ∃ ao cap, l = .slice ao n cap ∧ n ≤ cap ∧ cap ≤ maxLen ∧ (∀ g, ao = some ⟨g, 0, none⟩ → B ≤ g) ∧
    ((ao = none ∧ cap = 0) ∨ ∃ g cur, ao = some ⟨g, 0, none⟩ ∧ w.heap[g]? = some (.cells cur 3 (0, 0)) ∧ cur.size = cap) := by
  obtain ⟨h1, h2⟩ := h
  rcases h2 with ⟨rfl, rfl⟩ | ⟨g, cap, cur, rfl, hg, hh, hn, hc, hcs, ht⟩
  · exact ⟨none, 0, rfl, Nat.le_refl _, by unfold maxLen; omega, fun g e => (by simp at e), Or.inl ⟨rfl, rfl⟩⟩
  · exact ⟨_, cap, rfl, hn, hc, fun g' e => by simp at e; omega, Or.inr ⟨g, cur, rfl, hh, by simpa using hcs⟩⟩

theorem Try.info27 : (Try.prog.info? 27).map (fun i => (i.zero, i.size, i.bytes)) = some (some (.slice none 0 0), 1, 24) := by kernel_rfl

set_option maxHeartbeats 8000000 in
set_option maxRecDepth 100000 in
theorem keep_c {w : World} {B lb : Nat} {pt rt : Value} {K : Kp} (h : AK w B lb pt rt K) (hB : B ≤ w.heap.size) (hmk : -1000000000 ≤ K.mkv) (hmk0 : K.mkv ≤ 0) (hlen : K.xs.length ≤ 100000000) {l : Value} {n : Nat} {ys : List Value} (hl : w.ownsRow B 3 1 l n ys) (hap : ∀ x ∈ K.xs, Apt l x) (hm : Apt l K.xm) :
    Calls Try.prog 95 #[.pointer (some ⟨lb, 0, none⟩), l] w fun e w' => e = .returned (.tuple #[]) ∧ ∃ x xl xm, x.ownBlock = l.ownBlock ∧ AK w' B lb pt rt { K with xl := xl, xm := xm, mkv := K.mkv - 1, xs := K.xs ++ [x], ms := K.ms ++ [K.mkv - 1] } ∧
      (∀ g, xl.ownBlock = some g → K.xl.ownBlock = some g ∨ w.heap.size ≤ g) ∧ (∀ g, xm.ownBlock = some g → K.xm.ownBlock = some g ∨ w.heap.size ≤ g) ∧ ChgS (fun k => l.ownBlock = some k ∨ k = lb ∨ K.xl.ownBlock = some k ∨ K.xm.ownBlock = some k) w w' := by
  obtain ⟨ao, cap, rfl, n1, n2, hgB, hfm⟩ := row_form hl
  obtain ⟨f1, f2⟩ := nb_facts h.law
  have c5 := f1 5
  simp at c5
  have z5 := f2 5
  have ll := cell_lt c5
  have hlw0 := nb_set h.law 5 (I (K.mkv - 1))
  simp [Array.setIfInBounds] at hlw0
  have hfne : ∀ g, ao = some ⟨g, 0, none⟩ → g ≠ lb := fun g e => block_apart h.law hl (by decide) (by rw [e]; rfl)
  have HF0 : Hid (FillO (w.setCell ⟨lb, 5, none⟩ (I (K.mkv - 1))) (w.setCell ⟨lb, 5, none⟩ (I (K.mkv - 1))) ao cap (K.mkv - 1) 0) := by
    rcases hfm with ⟨rfl, rfl⟩ | ⟨g, cur, rfl, hh, hs⟩
    · exact Or.inl ⟨rfl, rfl, rfl, rfl, rfl, rfl⟩
    · refine Or.inr ⟨g, rfl, ⟨cur, ?_, hs, fun j hj => by omega⟩, rfl, rfl, rfl, rfl, fun _ _ => rfl⟩
      rw [Below.heap_setCell _ _ _ _ (hfne g rfl)]
      exact hh
  have HLW : Hid (∀ wr k, FillO (w.setCell ⟨lb, 5, none⟩ (I (K.mkv - 1))) wr ao cap (K.mkv - 1) k → wr.heap[lb]? = some (.cells #[pt, rt, K.xl, K.xm, K.xo, I (K.mkv - 1)] 103 (0, 0))) := by
    intro wr k hf
    rcases hf with ⟨rfl, _, e, _⟩ | ⟨g, rfl, hf⟩
    · rw [e]; exact hlw0
    · rw [hf.other lb (fun e => hfne g rfl e.symm)]; exact hlw0
  have hc0 : ChgS (fun k => (Value.slice ao n cap).ownBlock = some k ∨ k = lb ∨ K.xl.ownBlock = some k ∨ K.xm.ownBlock = some k) w (w.setCell ⟨lb, 5, none⟩ (I (K.mkv - 1))) := (ChgS.refl _ w).setCell (Or.inl (Or.inr (Or.inl rfl))) _
  have HMID : Hid (∀ wr, FillO (w.setCell ⟨lb, 5, none⟩ (I (K.mkv - 1))) wr ao cap (K.mkv - 1) cap → AK wr B lb pt rt { K with mkv := K.mkv - 1 } ∧ FullL wr B (.slice ao cap cap) (K.mkv - 1) ∧
      ChgS (fun k => (Value.slice ao n cap).ownBlock = some k ∨ k = lb ∨ K.xl.ownBlock = some k ∨ K.xm.ownBlock = some k) w wr) := by
    intro wr hf
    have hc1 := hf.chg (n := n)
    have hc2 : ChgS (fun k => (Value.slice ao n cap).ownBlock = some k ∨ k = lb ∨ K.xl.ownBlock = some k ∨ K.xm.ownBlock = some k) w wr :=
      ⟨hc1.os.trans hc0.os, hc1.tape.trans hc0.tape, hc1.output.trans hc0.output, Nat.le_trans hc0.size hc1.size, fun k hk hs => (hc1.block k (Nat.lt_of_lt_of_le hk hc0.size) fun e => hs (Or.inl e)).trans (hc0.block k hk hs)⟩
    have hsz : w.heap.size ≤ wr.heap.size := hc2.size
    have hc3 : ChgS (fun k => (Value.slice ao n cap).ownBlock = some k ∨ k = lb) w wr := by
      have hz : ChgS (fun k => (Value.slice ao n cap).ownBlock = some k ∨ k = lb) w (w.setCell ⟨lb, 5, none⟩ (I (K.mkv - 1))) := (ChgS.refl _ w).setCell (Or.inl (Or.inr rfl)) _
      exact ⟨hc1.os.trans hz.os, hc1.tape.trans hz.tape, hc1.output.trans hz.output, Nat.le_trans hz.size hc1.size, fun k hk hs => (hc1.block k (Nat.lt_of_lt_of_le hk hz.size) fun e => hs (Or.inl e)).trans (hz.block k hk hs)⟩
    refine ⟨⟨HLW.out wr cap hf, h.hlb, ?_, ?_, h.len, ?_, h.apart, ?_, h.olen, ?_, h.ole⟩, hf.full hgB n2, hc2⟩
    · refine hc3.row h.lrow fun g hg hs => ?_
      rcases hs with hs | hs
      · exact types_apart h.lrow hl (by decide) hg hs
      · exact block_apart h.law h.lrow (by decide) hg hs
    · refine hc3.row h.mrow fun g hg hs => ?_
      rcases hs with hs | hs
      · exact hm g hs hg
      · exact block_apart h.law h.mrow (by decide) hg hs
    · intro i a b
      have hf := h.full i a b
      refine hf.same fun g hg => hc3.block g (hf.lt hg).2 fun hs => ?_
      rcases hs with hs | hs
      · exact hap _ (List.getElem_mem a) g hs hg
      · obtain ⟨ao', n', e, ho⟩ := hf
        exact block_apart h.law ho (by decide) hg hs
    · refine hc3.row h.orow fun g hg hs => ?_
      rcases hs with hs | hs
      · exact types_apart h.orow hl (by decide) hg hs
      · exact block_apart h.law h.orow (by decide) hg hs
    · intro i a b
      have hf := h.ofull i a b
      refine hf.same fun g hg => hc3.block g (by obtain ⟨c, hc⟩ := hf.typ hg; exact (Array.getElem?_eq_some_iff.1 hc).1) fun hs => ?_
      obtain ⟨ao', n', e, _, ho⟩ := hf
      rcases hs with hs | hs
      · exact types_apart ho hl (by decide) hg hs
      · exact block_apart h.law ho (by decide) hg hs
  have HAY : Hid (Apt (.slice ao cap cap) K.xm) := fun g hg => hm g (by cases ao with | none => simp [Value.ownBlock] at hg | some a => exact hg)
  have HOB : Hid ((Value.slice ao cap cap).ownBlock = (Value.slice ao n cap).ownBlock) := by cases ao <;> rfl
  have HLE : Hid (K.ms.length = K.xs.length) := h.len
  clear h hl hap hm f1 f2 hfm hc0 hlw0 hfne hgB
  replace hB : Hid _ := hB
  unfold maxLen at n2
  generalize hmm : K.mkv = mk at *
  obtain ⟨i0, hi, hz0, hz1, hz2⟩ := info_parts Try.info27
  obtain ⟨i1, hi1, hy0, hy1, hy2⟩ := info_parts Try.info3
  go_enter Try.func95, Try.ntmps95
  go_wp2_with fail
  go_loopw [5] (fun i wr => ∃ k : Nat, k ≤ cap ∧ i = .int .i64 k ∧ FillO (w.setCell ⟨lb, 5, none⟩ (I (mk - 1))) wr ao cap (mk - 1) k) (fun i _ => cap - (intOf i).toNat)
  case atStart => exact ⟨0, Nat.zero_le _, rfl, HF0.out⟩
  case round =>
    obtain ⟨k, hk, rfl, hf⟩ := hrel
    have hlw := HLW.out wr k hf
    obtain ⟨g1, g2⟩ := nb_facts hlw
    have d5 : wr.cell? ⟨lb, 5, none⟩ = some (I (mk - 1)) := by rw [g1 5]; rfl
    by_cases hlt : k < cap
    · rcases hf with ⟨_, e, _⟩ | ⟨g, rfl, hf⟩
      · omega
      obtain ⟨cur, q1, q2, q3⟩ := hf.blk
      obtain ⟨p1, p2⟩ := nb_facts q1
      have pk : wr.cell? ⟨g, k, none⟩ = some cur[k] := by rw [p1 k]; exact Array.getElem?_eq_getElem (by omega)
      have pf := p2 k
      have HNX : Hid _ := hf.next hlt
      generalize cur[k] = u at *
      have hki : (k : Int) < cap := by omega
      clear p1 p2 g1 g2 q1 q2 q3 hlw hf HMID HLW HF0
      go_wp2
      go_roundw
      case rel => exact ⟨k + 1, by omega, by go_num, Or.inr ⟨g, rfl, HNX.out⟩⟩
      case measure => simp [intOf]; omega
    · have e : k = cap := by omega
      subst e
      obtain ⟨ha, hfl, hc⟩ := HMID.out wr hf
      clear HMID HLW HF0 hf hlw g1 g2
      obtain ⟨g1, g2⟩ := nb_facts ha.law
      have d2 : wr.cell? ⟨lb, 2, none⟩ = some K.xl := by rw [g1 2]; rfl
      obtain ⟨al, cl, el, q1, q2, q3, _⟩ := ownsRow_cells ha.lrow
      have el' : K.xl = .slice al K.xs.length cl := el
      rw [el'] at d2
      have ll2 := cell_lt d2
      have hBr : B ≤ wr.heap.size := Nat.le_trans hB.out hc.size
      unfold maxLen at q2 q3
      have HB2 : Hid (Below wr.heap.size wr (wr.alloc (.cells #[.slice ao k k] 27))) := (Below.refl _ _).alloc (Nat.le_refl _) _
      have HO : Hid ((wr.alloc (.cells #[.slice ao k k] 27)).ownsRow B 27 1 (.slice al K.xs.length cl) K.xs.length K.xs) := by
        have := ownsRow_below ha.lrow HB2.out (Nat.le_refl _)
        rw [el] at this
        exact this
      have HN : Hid (∀ j u, [Value.slice ao k k][j]? = some u → (wr.alloc (.cells #[.slice ao k k] 27)).cell? ((⟨wr.heap.size, 0, none⟩ : Addr).add j) = some u) := cells_new wr [.slice ao k k] 27
      have H1 : Hid (∀ u ∈ [Value.slice ao k k], u.oneCell' = true) := by
        intro u hu
        simp only [List.mem_cons, List.not_mem_nil, or_false] at hu
        subst hu
        rfl
      have HBB : Hid (B ≤ (wr.alloc (.cells #[.slice ao k k] 27)).heap.size) := by
        show B ≤ (wr.alloc _).heap.size
        simp; omega
      have HM : Hid (K.xs.length + 1 ≤ maxLen) := by show _ ≤ _; unfold maxLen; omega
      have HY : Hid ((K.xs.length + 1) * 24 ≤ 140737488355328) := by show _ ≤ _; omega
      have HH : Hid ((wr.alloc (.cells #[.slice ao k k] 27)).heap.size = wr.heap.size + 1) := by
        show (wr.alloc _).heap.size = _
        simp
      have HC : Hid (∀ w', (wr.alloc (.cells #[.slice ao k k] 27)).grownBy w' (Value.slice al K.xs.length cl).ownBlock → w'.cell? ⟨lb, 2, none⟩ = some (.slice al K.xs.length cl) ∧ w'.frozen? ⟨lb, 2, none⟩ = false) := by
        intro w' hg
        have h1 := ha.below HB2.out
        have hbk : w'.heap[lb]? = _ := (hg.block lb (Array.getElem?_eq_some_iff.1 h1.law).1 (fun e => block_apart h1.law HO.out (by decide) e.symm rfl)).trans h1.law
        obtain ⟨k1, k2⟩ := nb_facts hbk
        refine ⟨?_, k2 2⟩
        rw [k1 2, ← el']
        rfl
      have HP : Hid (∀ w' x, w'.ownsRow B 27 1 x (K.xs.length + 1) (K.xs ++ [.slice ao k k]) → (wr.alloc (.cells #[.slice ao k k] 27)).grownBy w' (Value.slice al K.xs.length cl).ownBlock →
          AKm (w'.setCell ⟨lb, 2, none⟩ x) B lb pt rt { K with xl := x, mkv := mk - 1 } (K.xs ++ [.slice ao k k]) ∧ FullL (w'.setCell ⟨lb, 2, none⟩ x) B (.slice ao k k) (mk - 1) ∧ ChgS (fun j => (Value.slice ao n k).ownBlock = some j ∨ j = lb ∨ K.xl.ownBlock = some j ∨ K.xm.ownBlock = some j) w (w'.setCell ⟨lb, 2, none⟩ x) ∧ w.heap.size ≤ (w'.setCell ⟨lb, 2, none⟩ x).heap.size) := by
        intro w' x a1 a2
        rw [← el'] at a2
        obtain ⟨b1, b2⟩ := ha.pushL HB2.out a1 a2
        have b3 := hc.trans' b2 (fun j hj => hj.elim (fun e => Or.inl (Or.inr (Or.inl e))) fun e => Or.inl (Or.inr (Or.inr (Or.inl e))))
        refine ⟨b1, hfl.same fun g hg => b2.block g (hfl.lt hg).2 fun hs => ?_, b3, b3.size⟩
        obtain ⟨ao', n', e', ho'⟩ := hfl
        rcases hs with hs | hs
        · exact block_apart ha.law ho' (by decide) hg hs
        · exact types_apart ho' ha.lrow (by decide) hg hs
      have HXL : Hid (∀ g, K.xl.ownBlock = some g ∨ g = wr.heap.size + 1 → K.xl.ownBlock = some g ∨ w.heap.size ≤ g) := fun g hg => hg.imp id fun e => by have := hc.size; omega
      rw [el'] at HXL
      have hcs := hc.size
      clear ha hfl hc el d5 hlt hk
      go_wp2_with (at_builtin; go_must (refine wpList_append_lies _ rfl _ _ 100 rfl B 27 i0 _ 1 24 Try.underlying100 hi hz0 hz1 hz2 rfl (by decide) _ _ _ rfl HO.out ⟨wr.heap.size, 0, none⟩ 1 1 [.slice ao k k] rfl rfl HN.out H1.out (by decide) HM.out HY.out HBB.out (wr.heap.size + 1) HH.out ?_))
      intro g cp w4 ho4 hg4 hgc _
      obtain ⟨cc1, cc2⟩ := HC.out _ hg4
      obtain ⟨hm4, hf4, hc4, hs4⟩ := HP.out _ _ ho4 hg4
      have hxl4 := HXL.out g hgc
      clear HP HC HH HY HM HBB H1 HN HO HB2 HXL hg4 ho4 hgc d2 g1 g2 q1 q2 q3
      go_wp2_with fail
      have hxl5 : ∀ g', (Value.slice (some ⟨g, 0, none⟩) (K.xs.length + 1) cp).ownBlock = some g' → K.xl.ownBlock = some g' ∨ w.heap.size ≤ g' := by
        intro g' hg'
        simp only [Value.ownBlock, Option.some.injEq] at hg'
        subst hg'
        rw [el']
        exact hxl4
      replace hxl5 : Hid _ := hxl5
      clear cc1 cc2 hxl4
      generalize w4.setCell ⟨lb, 2, none⟩ (.slice (some ⟨g, 0, none⟩) (K.xs.length + 1) cp) = w5 at *
      generalize Value.slice (some ⟨g, 0, none⟩) (K.xs.length + 1) cp = X5 at *
      obtain ⟨g1, g2⟩ := nb_facts hm4.law
      have d3 : w5.cell? ⟨lb, 3, none⟩ = some K.xm := by rw [g1 3]; rfl
      have d5 : w5.cell? ⟨lb, 5, none⟩ = some (I (mk - 1)) := by rw [g1 5]; rfl
      obtain ⟨am, cm, em, q1, q2, q3, _⟩ := ownsRow_cells hm4.mrow
      have em' : K.xm = .slice am K.xs.length cm := em
      rw [em'] at d3
      have ll3 := cell_lt d3
      have hB5 : B ≤ w5.heap.size := Nat.le_trans hB.out hs4
      unfold maxLen at q2 q3
      have HB2 : Hid (Below w5.heap.size w5 ((w5.alloc (.cells #[I (mk - 1)] 3)).drew)) := ((Below.refl _ _).alloc (Nat.le_refl _) _).drew
      have HO : Hid (((w5.alloc (.cells #[I (mk - 1)] 3)).drew).ownsRow B 3 1 (.slice am K.xs.length cm) K.xs.length (K.ms.map I)) := by
        have := ownsRow_below hm4.mrow HB2.out (Nat.le_refl _)
        rw [em] at this
        exact this
      have HN : Hid (∀ j u, [I (mk - 1)][j]? = some u → ((w5.alloc (.cells #[I (mk - 1)] 3)).drew).cell? ((⟨w5.heap.size, 0, none⟩ : Addr).add j) = some u) := cells_new w5 [I (mk - 1)] 3
      have H1 : Hid (∀ u ∈ [I (mk - 1)], u.oneCell' = true) := by
        intro u hu
        simp only [List.mem_cons, List.not_mem_nil, or_false] at hu
        subst hu
        rfl
      have HBB : Hid (B ≤ ((w5.alloc (.cells #[I (mk - 1)] 3)).drew).heap.size) := by
        show B ≤ (w5.alloc _).heap.size
        simp; omega
      have HM : Hid (K.xs.length + 1 ≤ maxLen) := by show _ ≤ _; unfold maxLen; omega
      have HY : Hid ((K.xs.length + 1) * 8 ≤ 140737488355328) := by show _ ≤ _; omega
      have HH : Hid (((w5.alloc (.cells #[I (mk - 1)] 3)).drew).heap.size = w5.heap.size + 1) := by
        show (w5.alloc _).heap.size = _
        simp
      have HC : Hid (∀ w', ((w5.alloc (.cells #[I (mk - 1)] 3)).drew).grownBy w' (Value.slice am K.xs.length cm).ownBlock → w'.cell? ⟨lb, 3, none⟩ = some (.slice am K.xs.length cm) ∧ w'.frozen? ⟨lb, 3, none⟩ = false) := by
        intro w' hg
        have h1 := hm4.below HB2.out
        have hbk : w'.heap[lb]? = _ := (hg.block lb (Array.getElem?_eq_some_iff.1 h1.law).1 (fun e => block_apart h1.law HO.out (by decide) e.symm rfl)).trans h1.law
        obtain ⟨k1, k2⟩ := nb_facts hbk
        refine ⟨?_, k2 3⟩
        rw [k1 3, ← em']
        rfl
      have HP : Hid (∀ w' gx cx, w'.ownsRow B 3 1 (.slice (some ⟨gx, 0, none⟩) (K.xs.length + 1) cx) (K.xs.length + 1) (K.ms.map I ++ [I (mk - 1)]) → ((w5.alloc (.cells #[I (mk - 1)] 3)).drew).grownBy w' (Value.slice am K.xs.length cm).ownBlock → ((Value.slice am K.xs.length cm).ownBlock = some gx ∨ gx = w5.heap.size + 1) →
          ∃ x xl xm, x.ownBlock = (Value.slice ao n k).ownBlock ∧ AK (w'.setCell ⟨lb, 3, none⟩ (.slice (some ⟨gx, 0, none⟩) (K.xs.length + 1) cx)) B lb pt rt { K with xl := xl, xm := xm, mkv := mk - 1, xs := K.xs ++ [x], ms := K.ms ++ [mk - 1] } ∧
      (∀ g, xl.ownBlock = some g → K.xl.ownBlock = some g ∨ w.heap.size ≤ g) ∧ (∀ g, xm.ownBlock = some g → K.xm.ownBlock = some g ∨ w.heap.size ≤ g) ∧ ChgS (fun j => (Value.slice ao n k).ownBlock = some j ∨ j = lb ∨ K.xl.ownBlock = some j ∨ K.xm.ownBlock = some j) w (w'.setCell ⟨lb, 3, none⟩ (.slice (some ⟨gx, 0, none⟩) (K.xs.length + 1) cx))) := by
        intro w' gx cx a1 a2 a3
        rw [← em'] at a2 a3
        have hx : ∀ g', (Value.slice (some ⟨gx, 0, none⟩) (K.xs.length + 1) cx).ownBlock = some g' → K.xm.ownBlock = some g' ∨ w5.heap.size ≤ g' := by
          intro g' hg'
          simp only [Value.ownBlock, Option.some.injEq] at hg'
          subst hg'
          exact a3.imp id fun e => by omega
        obtain ⟨b1, b2⟩ := hm4.pushM hf4 HAY.out HB2.out a1 a2 hx
        refine ⟨.slice ao k k, X5, _, HOB.out, b1, hxl5.out, fun g' hg' => (hx g' hg').imp id fun e => Nat.le_trans hs4 e, hc4.trans' b2 fun j hj => hj.elim (fun e => Or.inl (Or.inr (Or.inl e))) fun e => Or.inl (Or.inr (Or.inr (Or.inr e)))⟩
      clear hm4 hf4 hc4 em g1 g2 HAY HOB hxl5
      go_region_law (refine step_append_lies _ rfl (.tmp 44) (.tmp 49) 27 rfl B 3 i1 _ 1 8 Try.underlying27 hi1 hy0 hy1 hy2 rfl (by decide) _ _ _ rfl HO.out ⟨w5.heap.size, 0, none⟩ 1 1 [I (mk - 1)] rfl rfl HN.out H1.out (by decide) HM.out HY.out HBB.out (w5.heap.size + 1) HH.out ?_; intro gx cx w6 ho6 hg6 hgc6 _; obtain ⟨cc1, cc2⟩ := HC.out _ hg6; have hfin := HP.out _ _ _ ho6 hg6 hgc6; replace hfin : Hid _ := hfin; clear hg6 ho6)
      all_goals
        go_wp2_with fail
        have hz := hfin.out
        rw [el', em'] at hz
        obtain ⟨x, xl, xm, h1, h2, h3, h4, h5⟩ := hz
        exact bodyPost_end (v := .tuple #[]) (by simp [results, Try.results95, go_sem]) rfl ⟨rfl, x, h1, xl, xm, h2, h3, h4, h5⟩

end Go.Proofs.Ytjnmpejcegmkhaa

namespace Go.Proofs.Ytjnmpejcegmkhaa
open Go.RowKit
variable {Fr : Nat → Prop}

/-- The blocks that owns writes. -/
def SOwn (lb : Nat) (K : Kp) (x : Value) (l : List (ND × Value × Value)) (k : Nat) : Prop :=
  k = lb ∨ K.xl.ownBlock = some k ∨ K.xm.ownBlock = some k ∨ K.xo.ownBlock = some k ∨ x.ownBlock = some k ∨ ∃ v ∈ lsOf l, v.ownBlock = some k

structure OwnI (w : World) (B lb : Nat) (pt rt : Value) (K : Kp) (x : Value) (l : List (ND × Value × Value)) (wr : World) (j : Nat) (J : Kp) : Prop where
  ak : AK wr B lb pt rt J
  len : J.xs.length = K.xs.length + j
  mkE : J.mkv = K.mkv - j
  xo : J.xo = K.xo
  os : J.os = K.os
  om : J.om = K.om
  xl : ∀ g, J.xl.ownBlock = some g → K.xl.ownBlock = some g ∨ w.heap.size ≤ g
  xm : ∀ g, J.xm.ownBlock = some g → K.xm.ownBlock = some g ∨ w.heap.size ≤ g
  xs : ∀ y ∈ J.xs, y ∈ K.xs ∨ ∃ v ∈ (lsOf l).take j, y.ownBlock = v.ownBlock
  rest : ∀ v ∈ (lsOf l).drop j, ∃ n ys, wr.ownsRow B 3 1 v n ys
  row : wr.ownsRow B 49 12 x l.length (ndsCells l)
  chg : ChgS (SOwn lb K x l) w wr

/-- What owns is given. -/
structure OwnH (w : World) (B lb : Nat) (pt rt : Value) (K : Kp) (x : Value) (l : List (ND × Value × Value)) : Prop where
  ak : AK w B lb pt rt K
  hB : B ≤ w.heap.size
  rep : NodesRep w B x l
  pw : (lsOf l).Pairwise Apt
  old : ∀ v ∈ lsOf l, ∀ y ∈ K.xs, Apt v y
  oxm : ∀ v ∈ lsOf l, Apt v K.xm
  oos : ∀ y ∈ K.os, Apt x y

section
variable {w : World} {B lb : Nat} {pt rt : Value} {K : Kp} {x : Value} {l : List (ND × Value × Value)} {wr : World} {j : Nat} {J : Kp}

theorem OwnH.start (h : OwnH w B lb pt rt K x l) : OwnI w B lb pt rt K x l w 0 K :=
  ⟨h.ak, rfl, by simp, rfl, rfl, rfl, fun g hg => Or.inl hg, fun g hg => Or.inl hg, fun y hy => Or.inl hy, fun v hv => h.rep.lists v (by simpa using hv), h.rep.row, ChgS.refl _ _⟩

theorem OwnI.ready (h : OwnI w B lb pt rt K x l wr j J) (h0 : OwnH w B lb pt rt K x l) (hj : j < (lsOf l).length) :
    (∃ n ys, wr.ownsRow B 3 1 (lsOf l)[j] n ys) ∧ (∀ y ∈ J.xs, Apt (lsOf l)[j] y) ∧ Apt (lsOf l)[j] J.xm := by
  refine ⟨h.rest _ ?_, ?_, ?_⟩
  · rw [List.drop_eq_getElem_cons hj]; exact List.mem_cons_self
  · intro y hy g hg hgy
    rcases h.xs y hy with h1 | ⟨v, hv, h1⟩
    · exact h0.old _ (List.getElem_mem hj) y h1 g hg hgy
    · obtain ⟨i, hi, rfl⟩ := List.getElem_of_mem hv
      have hi' : i < j := by simp at hi; omega
      rw [List.getElem_take] at h1
      have := (List.pairwise_iff_getElem.1 h0.pw) i j (by omega) hj hi'
      exact this g (h1 ▸ hgy) hg
  · intro g hg hgm
    rcases h.xm g hgm with h1 | h1
    · exact h0.oxm _ (List.getElem_mem hj) g hg h1
    · obtain ⟨n, ys, ho⟩ := h0.rep.lists _ (List.getElem_mem hj)
      have := (ho.lt g hg).2
      omega

theorem OwnI.next (h : OwnI w B lb pt rt K x l wr j J) (h0 : OwnH w B lb pt rt K x l) (hj : j < (lsOf l).length) {w' : World} {y xl xm : Value} (hy : y.ownBlock = (lsOf l)[j].ownBlock)
    (ha : AK w' B lb pt rt { J with xl := xl, xm := xm, mkv := J.mkv - 1, xs := J.xs ++ [y], ms := J.ms ++ [J.mkv - 1] }) (hxl : ∀ g, xl.ownBlock = some g → J.xl.ownBlock = some g ∨ wr.heap.size ≤ g) (hxm : ∀ g, xm.ownBlock = some g → J.xm.ownBlock = some g ∨ wr.heap.size ≤ g)
    (hc : ChgS (fun k => (lsOf l)[j].ownBlock = some k ∨ k = lb ∨ J.xl.ownBlock = some k ∨ J.xm.ownBlock = some k) wr w') : OwnI w B lb pt rt K x l w' (j + 1) { J with xl := xl, xm := xm, mkv := J.mkv - 1, xs := J.xs ++ [y], ms := J.ms ++ [J.mkv - 1] } where
  ak := ha
  len := by simp [h.len]; omega
  mkE := by show J.mkv - 1 = _; rw [h.mkE]; omega
  xo := h.xo
  os := h.os
  om := h.om
  xl := fun g hg => by
    rcases hxl g hg with h1 | h1
    · exact h.xl g h1
    · exact Or.inr (Nat.le_trans h.chg.size h1)
  xm := fun g hg => by
    rcases hxm g hg with h1 | h1
    · exact h.xm g h1
    · exact Or.inr (Nat.le_trans h.chg.size h1)
  xs := fun z hz => by
    rcases List.mem_append.1 hz with hz | hz
    · rcases h.xs z hz with h1 | ⟨v, hv, h1⟩
      · exact Or.inl h1
      · exact Or.inr ⟨v, List.take_subset_take_left _ (Nat.le_succ j) hv, h1⟩
    · simp at hz; subst hz
      exact Or.inr ⟨(lsOf l)[j], by
        have := List.getElem_mem (l := (lsOf l).take (j + 1)) (n := j) (by simp; omega)
        rwa [List.getElem_take] at this, hy⟩
  rest := fun v hv => by
    obtain ⟨n, ys, ho⟩ := h.rest v (by rw [List.drop_eq_getElem_cons hj]; exact List.mem_cons_of_mem _ hv)
    refine ⟨n, ys, hc.row ho fun g hg hs => ?_⟩
    obtain ⟨i, hi, rfl⟩ := List.getElem_of_mem hv
    have hi' : j + 1 + i < (lsOf l).length := by simp at hi; omega
    rw [List.getElem_drop] at hg
    rcases hs with hs | hs | hs | hs
    · exact (List.pairwise_iff_getElem.1 h0.pw) j (j + 1 + i) hj hi' (by omega) g hs hg
    · rw [← List.getElem_drop (h := hi)] at hg
      exact block_apart h.ak.law ho (by decide) hg hs
    · rw [← List.getElem_drop (h := hi)] at hg
      exact types_apart ho h.ak.lrow (by decide) hg hs
    · rcases h.xm g hs with h1 | h1
      · exact h0.oxm _ (List.getElem_mem hi') g hg h1
      · obtain ⟨n, ys, ho⟩ := h0.rep.lists _ (List.getElem_mem hi')
        have := (ho.lt g hg).2
        omega
  row := hc.row h.row fun g hg hs => by
    rcases hs with hs | hs | hs | hs
    · obtain ⟨⟨n, ys, ho⟩, _⟩ := h.ready h0 hj
      exact types_apart h.row ho (by decide) hg hs
    · exact block_apart h.ak.law h.row (by decide) hg hs
    · exact types_apart h.row h.ak.lrow (by decide) hg hs
    · exact types_apart h.row h.ak.mrow (by decide) hg hs
  chg := h.chg.trans' hc fun k hk => by
    unfold SOwn
    rcases hk with hk | hk | hk | hk
    · exact Or.inl (Or.inr (Or.inr (Or.inr (Or.inr (Or.inr ⟨_, List.getElem_mem hj, hk⟩)))))
    · exact Or.inl (Or.inl hk)
    · rcases h.xl k hk with h1 | h1
      · exact Or.inl (Or.inr (Or.inl h1))
      · exact Or.inr h1
    · rcases h.xm k hk with h1 | h1
      · exact Or.inl (Or.inr (Or.inr (Or.inl h1)))
      · exact Or.inr h1

theorem lsOf_at (l : List (ND × Value × Value)) (k : Nat) (hk : k < l.length) : ∃ (h1 : 2 * k < (lsOf l).length) (h2 : 2 * k + 1 < (lsOf l).length), (lsOf l)[2 * k] = l[k].2.1 ∧ (lsOf l)[2 * k + 1] = l[k].2.2 := by
  have e0 := flat_at (fun y : ND × Value × Value => [y.2.1, y.2.2]) 2 (fun _ => rfl) l k hk 0 (by omega)
  have e1 := flat_at (fun y : ND × Value × Value => [y.2.1, y.2.2]) 2 (fun _ => rfl) l k hk 1 (by omega)
  simp only [List.getElem?_cons_zero, List.getElem?_cons_succ] at e0 e1
  obtain ⟨a0, b0⟩ := List.getElem?_eq_some_iff.1 e0
  obtain ⟨a1, b1⟩ := List.getElem?_eq_some_iff.1 e1
  have q : 2 * k = k * 2 + 0 := by omega
  have q1 : 2 * k + 1 = k * 2 + 1 := by omega
  refine ⟨by rw [q]; exact a0, by rw [q1]; exact a1, ?_, ?_⟩
  · simp only [q]; exact b0
  · simp only [q1]; exact b1
theorem lsOf_length (l : List (ND × Value × Value)) : (lsOf l).length = 2 * l.length := by
  induction l with
  | nil => rfl
  | cons y r ih => simp only [lsOf, List.flatMap_cons, List.length_append, List.length_cons, List.length_nil] at *; omega
end

/-- An outer list in the midst of being written: the first c cells are there. -/
structure FillC (w0 w : World) (g cap : Nat) (m : Int) (c : Nat) : Prop where
  blk : ∃ cur, w.heap[g]? = some (.cells cur 49 (0, 0)) ∧ cur.size = cap * 12 ∧ ∀ j, j < c → cur[j]? = (bareN m)[j % 12]?
  os : w.os = w0.os
  tape : w.tape = w0.tape
  output : w.output = w0.output
  size : w.heap.size = w0.heap.size
  other : ∀ b, b ≠ g → w.heap[b]? = w0.heap[b]?
theorem FillC.next {w0 w : World} {g cap : Nat} {m : Int} {c : Nat} (h : FillC w0 w g cap m c) (hc : c < cap * 12) {v : Value} (hv : (bareN m)[c % 12]? = some v) : FillC w0 (w.setCell ⟨g, c, none⟩ v) g cap m (c + 1) := by
  obtain ⟨cur, h1, h2, h3⟩ := h.blk
  refine ⟨⟨_, nb_set h1 c v, by simpa using h2, fun j hj => ?_⟩, h.os, h.tape, h.output, by simpa [World.setCell] using h.size, fun b hb => (Below.heap_setCell _ _ _ _ hb).trans (h.other b hb)⟩
  by_cases e : j = c
  · subst e; rw [hv]; simp [h2, hc]
  · rw [Array.getElem?_setIfInBounds_ne (by omega)]; exact h3 j (by omega)
theorem FillC.node {w0 w : World} {g cap : Nat} {m : Int} {k : Nat} (h : FillC w0 w g cap m (k * 12)) (hk : k < cap) :
    FillC w0 ((((((((((((w.setCell ⟨g, k * 12, none⟩ (I m)).setCell ⟨g, k * 12 + 1, none⟩ (I 0)).setCell ⟨g, k * 12 + 2, none⟩ (I 0)).setCell ⟨g, k * 12 + 3, none⟩ (.bool false)).setCell ⟨g, k * 12 + 4, none⟩ (.bool false)).setCell ⟨g, k * 12 + 5, none⟩ (I 0)).setCell ⟨g, k * 12 + 6, none⟩ (I 0)).setCell ⟨g, k * 12 + 7, none⟩ (I 0)).setCell ⟨g, k * 12 + 8, none⟩ (.slice none 0 0)).setCell ⟨g, k * 12 + 9, none⟩ (I 0)).setCell ⟨g, k * 12 + 10, none⟩ (I 0)).setCell ⟨g, k * 12 + 11, none⟩ (.slice none 0 0)) g cap m ((k + 1) * 12) := by
  have e : ∀ t, t < 12 → (k * 12 + t) % 12 = t := fun t ht => by omega
  have := (((((((((((h.next (by omega) (v := I m) (by have := e 0 (by omega); rw [Nat.add_zero] at this; rw [this]; rfl)).next (by omega) (v := I 0) (by rw [e 1 (by omega)]; rfl)).next (by omega) (v := I 0) (by rw [e 2 (by omega)]; rfl)).next (by omega) (v := .bool false) (by rw [e 3 (by omega)]; rfl)).next (by omega) (v := .bool false) (by rw [e 4 (by omega)]; rfl)).next (by omega) (v := I 0) (by rw [e 5 (by omega)]; rfl)).next (by omega) (v := I 0) (by rw [e 6 (by omega)]; rfl)).next (by omega) (v := I 0) (by rw [e 7 (by omega)]; rfl)).next (by omega) (v := .slice none 0 0) (by rw [e 8 (by omega)]; rfl)).next (by omega) (v := I 0) (by rw [e 9 (by omega)]; rfl)).next (by omega) (v := I 0) (by rw [e 10 (by omega)]; rfl)).next (by omega) (v := .slice none 0 0) (by rw [e 11 (by omega)]; rfl)
  have e2 : (k + 1) * 12 = k * 12 + 1 + 1 + 1 + 1 + 1 + 1 + 1 + 1 + 1 + 1 + 1 + 1 := by omega
  rw [e2]
  exact this
theorem FillC.full {w0 w : World} {g cap : Nat} {m : Int} (h : FillC w0 w g cap m (cap * 12)) {B : Nat} (hB : B ≤ g) (hc : cap ≤ maxLen) (h1 : 1 ≤ cap) : FullN w B (.slice (some ⟨g, 0, none⟩) cap cap) m := by
  obtain ⟨cur, c1, c2, c3⟩ := h.blk
  refine ⟨_, cap, rfl, h1, ?_, Or.inr ⟨g, cap, cur, rfl, hB, c1, Nat.le_refl _, hc, c2, ?_⟩⟩
  · have : ∀ n : Nat, ((List.replicate n m).flatMap bareN).length = n * 12 := by
      intro n
      induction n with
      | zero => rfl
      | succ n ih => rw [List.replicate_succ, List.flatMap_cons, List.length_append, ih]; show 12 + _ = _; omega
    exact this cap
  · apply List.ext_getElem?
    intro j
    by_cases hj : j < cap * 12
    · rw [List.getElem?_take, if_pos hj]
      have e := flat_at bareN 12 (fun _ => rfl) (List.replicate cap m) (j / 12) (by simp; omega) (j % 12) (by omega)
      have e2 : j / 12 * 12 + j % 12 = j := by omega
      rw [e2, List.getElem_replicate] at e
      rw [e]
      have := c3 j hj
      simpa using this
    · have hl : ((List.replicate cap m).flatMap bareN).length = cap * 12 := by
        have : ∀ n : Nat, ((List.replicate n m).flatMap bareN).length = n * 12 := by
          intro n
          induction n with
          | zero => rfl
          | succ n ih => rw [List.replicate_succ, List.flatMap_cons, List.length_append, ih]; show 12 + _ = _; omega
        exact this cap
      rw [List.getElem?_eq_none (by simp; omega), List.getElem?_eq_none (by rw [hl]; omega)]

end Go.Proofs.Ytjnmpejcegmkhaa

namespace Go.Proofs.Ytjnmpejcegmkhaa
open Go.RowKit
variable {Fr : Nat → Prop}

theorem AKm.pushO {w w1 w' : World} {B lb : Nat} {pt rt : Value} {K : Kp} {y : Value} {m : Int} (h : AK w B lb pt rt K) (hy : FullN w B y m) (hm : m ≤ -1000) (hb : Below w.heap.size w w1) {x : Value} (ho : w'.ownsRow B 40 1 x (K.os.length + 1) (K.os ++ [y])) (hg : w1.grownBy w' K.xo.ownBlock) :
    AK (w'.setCell ⟨lb, 4, none⟩ x) B lb pt rt { K with xo := x, os := K.os ++ [y], om := K.om ++ [m] } ∧ ChgS (fun k => k = lb ∨ K.xo.ownBlock = some k) w (w'.setCell ⟨lb, 4, none⟩ x) := by
  have h1 := h.below hb
  have hc0 : ChgS (fun k => k = lb ∨ K.xo.ownBlock = some k) w w1 := ⟨hb.os, hb.tape, hb.output, hb.size, fun k hk _ => hb.block k hk⟩
  have hc := (hc0.grown hg (fun k hk => Or.inl (Or.inr hk))).setCell (p := ⟨lb, 4, none⟩) (Or.inl (Or.inl rfl)) x
  have hl : w'.heap[lb]? = some (.cells #[pt, rt, K.xl, K.xm, K.xo, I K.mkv] 103 (0, 0)) := by
    rw [hg.block lb (Array.getElem?_eq_some_iff.1 h1.law).1 (fun e => block_apart h1.law h1.orow (by decide) e.symm rfl)]
    exact h1.law
  obtain ⟨f1, f2⟩ := h.others hc (fun k hk => hk.elim Or.inl fun hk => Or.inr (Or.inr (Or.inr hk)))
  have hyl : FullN (w'.setCell ⟨lb, 4, none⟩ x) B y m := hy.same fun g hg' => hc.block g (by obtain ⟨c, hc⟩ := hy.typ hg'; exact (Array.getElem?_eq_some_iff.1 hc).1) fun hs => by
    obtain ⟨ao, n, e, _, ho'⟩ := hy
    rcases hs with hs | hs
    · exact block_apart h.law ho' (by decide) hg' hs
    · exact types_apart ho' h.orow (by decide) hg' hs
  refine ⟨⟨?_, h.hlb, ?_, ?_, h.len, f1, h.apart, ?_, by simp [h.olen], ?_, ?_⟩, hc⟩
  · have := nb_set hl 4 x
    simpa [Array.setIfInBounds] using this
  · refine hc.row h.lrow fun g hg' hs => ?_
    rcases hs with hs | hs
    · exact block_apart h.law h.lrow (by decide) hg' hs
    · exact types_apart h.lrow h.orow (by decide) hg' hs
  · refine hc.row h.mrow fun g hg' hs => ?_
    rcases hs with hs | hs
    · exact block_apart h.law h.mrow (by decide) hg' hs
    · exact types_apart h.mrow h.orow (by decide) hg' hs
  · have := ownsRow_setCell_type ho hl (by decide) 4 x
    simpa using this
  · intro i a b
    have hlen := h.olen
    by_cases e : i < K.os.length
    · have e' : i < K.om.length := by omega
      simp only [List.getElem_append_left e, List.getElem_append_left e']
      exact f2 i e e'
    · have e2 : i = K.os.length := by simp at a; omega
      subst e2
      have e3 : K.om.length ≤ K.os.length := by omega
      simp only [List.getElem_append_right (Nat.le_refl _), List.getElem_append_right e3, Nat.sub_self, List.getElem_cons_zero, hlen]
      exact hyl
  · intro z hz
    rcases List.mem_append.1 hz with hz | hz
    · exact h.ole z hz
    · simp at hz; subst hz; exact hm

/-- An outer list that is being written: none, or a block of its own. -/
def FillU (w0 wr : World) (ao : Option Addr) (cap : Nat) (m : Int) (k : Nat) : Prop :=
  (ao = none ∧ cap = 0 ∧ wr.heap = w0.heap ∧ wr.os = w0.os ∧ wr.tape = w0.tape ∧ wr.output = w0.output) ∨ ∃ g, ao = some ⟨g, 0, none⟩ ∧ FillC w0 wr g cap m (k * 12)
theorem FillU.chg {w0 wr : World} {ao : Option Addr} {n cap : Nat} {m : Int} {k : Nat} (h : FillU w0 wr ao cap m k) : ChgS (fun j => (Value.slice ao n cap).ownBlock = some j) w0 wr := by
  rcases h with ⟨rfl, _, e, e1, e2, e3⟩ | ⟨g, rfl, h⟩
  · exact ⟨e1, e2, e3, by rw [e]; exact Nat.le_refl _, fun k _ _ => by rw [e]⟩
  · exact ⟨h.os, h.tape, h.output, by rw [h.size]; exact Nat.le_refl _, fun k _ hs => h.other k fun e => hs (by subst e; rfl)⟩

theorem rowN_form {w : World} {B : Nat} {l : Value} {n : Nat} {ys : List Value} (h : w.ownsRow B 49 12 l n ys) : ∃ ao cap, l = .slice ao n cap ∧ n ≤ cap ∧ cap ≤ maxLen ∧ (∀ g, ao = some ⟨g, 0, none⟩ → B ≤ g) ∧
    ((ao = none ∧ cap = 0) ∨ ∃ g cur, ao = some ⟨g, 0, none⟩ ∧ w.heap[g]? = some (.cells cur 49 (0, 0)) ∧ cur.size = cap * 12) := by
  obtain ⟨h1, h2⟩ := h
  rcases h2 with ⟨rfl, rfl⟩ | ⟨g, cap, cur, rfl, hg, hh, hn, hc, hcs, ht⟩
  · exact ⟨none, 0, rfl, Nat.le_refl _, by unfold maxLen; omega, fun g e => (by simp at e), Or.inl ⟨rfl, rfl⟩⟩
  · exact ⟨_, cap, rfl, hn, hc, fun g' e => by simp at e; omega, Or.inr ⟨g, cur, rfl, hh, hcs⟩⟩

theorem Try.info40 : (Try.prog.info? 40).map (fun i => (i.zero, i.size, i.bytes)) = some (some (.slice none 0 0), 1, 24) := by kernel_rfl

/-- The rest of what owns gives. -/
def OwnE (w : World) (B lb : Nat) (pt rt : Value) (K : Kp) (x : Value) (l : List (ND × Value × Value)) (w' : World) : Prop :=
  ∃ J, AK w' B lb pt rt J ∧ J.xs.length = K.xs.length + 2 * l.length ∧ J.os.length ≤ K.os.length + 1 ∧ J.mkv = K.mkv - 2 * l.length ∧ (∀ g, J.xm.ownBlock = some g → K.xm.ownBlock = some g ∨ w.heap.size ≤ g) ∧ ChgS (SOwn lb K x l) w w'

/-- The outer list written full, in one world: what is kept is as it was. -/
theorem OwnI.filled {w : World} {B lb : Nat} {pt rt : Value} {K : Kp} {ao : Option Addr} {cap : Nat} {l : List (ND × Value × Value)} {wr : World} {J : Kp} (h : OwnI w B lb pt rt K (.slice ao l.length cap) l wr (2 * l.length) J) (h0 : OwnH w B lb pt rt K (.slice ao l.length cap) l)
    {wq : World} (hf : FillU wr wq ao cap J.mkv cap) (hgB : ∀ g, ao = some ⟨g, 0, none⟩ → B ≤ g) (hc : cap ≤ maxLen) : AK wq B lb pt rt J ∧ (1 ≤ cap → FullN wq B (.slice ao cap cap) J.mkv) ∧ ChgS (SOwn lb K (.slice ao l.length cap) l) w wq := by
  have hc1 := hf.chg (n := l.length)
  refine ⟨⟨?_, h.ak.hlb, ?_, ?_, h.ak.len, ?_, h.ak.apart, ?_, h.ak.olen, ?_, h.ak.ole⟩, ?_, h.chg.trans' hc1 fun k hk => Or.inl (Or.inr (Or.inr (Or.inr (Or.inr (Or.inl hk)))))⟩
  · rw [hc1.block lb (Array.getElem?_eq_some_iff.1 h.ak.law).1 fun hs => block_apart h.ak.law h.row (by decide) hs rfl]
    exact h.ak.law
  · exact hc1.row h.ak.lrow fun g hg hs => types_apart h.ak.lrow h.row (by decide) hg hs
  · exact hc1.row h.ak.mrow fun g hg hs => types_apart h.ak.mrow h.row (by decide) hg hs
  · intro i a b
    have hf := h.ak.full i a b
    refine hf.same fun g hg => hc1.block g (hf.lt hg).2 fun hs => ?_
    obtain ⟨ao', n', e, ho⟩ := hf
    exact types_apart ho h.row (by decide) hg hs
  · exact hc1.row h.ak.orow fun g hg hs => types_apart h.ak.orow h.row (by decide) hg hs
  · intro i a b
    have hf := h.ak.ofull i a b
    refine hf.same fun g hg => hc1.block g (by obtain ⟨c, hc⟩ := hf.typ hg; exact (Array.getElem?_eq_some_iff.1 hc).1) fun hs => ?_
    exact h0.oos _ (by rw [← h.os]; exact List.getElem_mem a) g hs hg
  · intro h1
    rcases hf with ⟨_, e, _⟩ | ⟨g, rfl, hf⟩
    · omega
    · exact hf.full (hgB g rfl) hc h1

set_option maxHeartbeats 8000000 in
set_option maxRecDepth 100000 in
theorem owns_c {w : World} {B lb : Nat} {pt rt : Value} {K : Kp} {x : Value} {l : List (ND × Value × Value)} (h0 : OwnH w B lb pt rt K x l) (hll : l.length ≤ 32) (hmk : -900000000 ≤ K.mkv) (hmk0 : K.mkv ≤ -1000) (hlen : K.xs.length ≤ 90000000) (hol : K.os.length ≤ 90000000) :
    Calls Try.prog 62 #[.pointer (some ⟨lb, 0, none⟩), x] w fun e w' => e = .returned (.tuple #[]) ∧ OwnE w B lb pt rt K x l w' := by
  have hlo := lsOf_length l
  have HK : Hid (∀ wr j J, OwnI w B lb pt rt K x l wr j J → (hj : j < (lsOf l).length) → Calls Try.prog 95 #[.pointer (some ⟨lb, 0, none⟩), (lsOf l)[j]] wr fun e w' => e = .returned (.tuple #[]) ∧ ∃ J', OwnI w B lb pt rt K x l w' (j + 1) J') := by
    intro wr j J h hj
    obtain ⟨⟨n, ys, ho⟩, a1, a2⟩ := h.ready h0 hj
    have e1 := h.mkE
    have e2 := h.len
    refine (keep_c h.ak (Nat.le_trans h0.hB h.chg.size) (by omega) (by omega) (by omega) ho a1 a2).mono ?_
    rintro e w' ⟨rfl, y, xl, xm, b1, b2, b3, b4, b5⟩
    exact ⟨rfl, _, h.next h0 hj b1 b2 b3 b4 b5⟩
  obtain ⟨ao, cap, rfl, n1, n2, hgB, hfm⟩ := rowN_form h0.rep.row
  have HR : Hid (∀ wr j J, OwnI w B lb pt rt K (.slice ao l.length cap) l wr j J → ∀ k, (hk : k < l.length) → ∃ gx a1 m1 c1 a2 m2 c2, ao = some ⟨gx, 0, none⟩ ∧ wr.cell? ⟨gx, k * 12 + 8, none⟩ = some (.slice a1 m1 c1) ∧ l[k].2.1 = .slice a1 m1 c1 ∧ wr.cell? ⟨gx, k * 12 + 11, none⟩ = some (.slice a2 m2 c2) ∧ l[k].2.2 = .slice a2 m2 c2) := by
    intro wr j J h k hk
    obtain ⟨ao', cap', e, q1, q2, q3, hc⟩ := ownsRow_cells h.row
    simp only [Value.slice.injEq, true_and] at e
    obtain ⟨rfl, rfl⟩ := e
    obtain ⟨a1, c1, e1, _⟩ := ownsRow_cells (h0.rep.waiting _ (List.getElem_mem hk))
    obtain ⟨a2, c2, e2, _⟩ := ownsRow_cells (h0.rep.items _ (List.getElem_mem hk))
    obtain ⟨gx, f1, _, d1⟩ := hc (k * 12 + 8) l[k].2.1 (by
      have := flat_at (fun y : ND × Value × Value => ndCells y.1 y.2.1 y.2.2) 12 (fun _ => rfl) l k hk 8 (by omega)
      exact this)
    obtain ⟨gx', f2, _, d2⟩ := hc (k * 12 + 11) l[k].2.2 (by
      have := flat_at (fun y : ND × Value × Value => ndCells y.1 y.2.1 y.2.2) 12 (fun _ => rfl) l k hk 11 (by omega)
      exact this)
    rw [f1] at f2
    simp at f2
    subst f2
    exact ⟨gx, a1, _, c1, a2, _, c2, f1, by rw [← e1]; exact d1, e1, by rw [← e2]; exact d2, e2⟩
  have HLS : Hid (∀ k, (hk : k < l.length) → ∃ (h1 : 2 * k < (lsOf l).length) (h2 : 2 * k + 1 < (lsOf l).length), (lsOf l)[2 * k] = l[k].2.1 ∧ (lsOf l)[2 * k + 1] = l[k].2.2) := fun k hk => lsOf_at l k hk
  have HST : Hid (OwnI w B lb pt rt K (.slice ao l.length cap) l w 0 K) := h0.start
  have H0 : Hid _ := h0
  clear h0 hfm
  unfold maxLen at n2
  go_enter Try.func62, Try.ntmps62
  go_wp2_with fail
  go_loopw [4] (fun i wr => ∃ (k : Nat) (J : Kp), k ≤ l.length ∧ i = .int .i64 k ∧ OwnI w B lb pt rt K (.slice ao l.length cap) l wr (2 * k) J) (fun i _ => l.length - (intOf i).toNat)
  case atStart => exact ⟨0, K, Nat.zero_le _, rfl, HST.out⟩
  case round =>
    obtain ⟨k, J, hk, rfl, hi⟩ := hrel
    by_cases hlt : k < l.length
    · obtain ⟨gx, a1, m1, c1, a2, m2, c2, rfl, d1, e1, d2, e2⟩ := HR.out _ _ _ hi k hlt
      obtain ⟨l1, l2, s1, s2⟩ := HLS.out k hlt
      have hc1 := HK.out _ _ _ hi l1
      rw [s1, e1] at hc1
      have hki : (k : Int) < l.length := by omega
      go_wp2_with fail
      refine hc1.mono ?_
      rintro e w1 ⟨rfl, J1, hi1⟩
      obtain ⟨gx', a1', m1', c1', a2', m2', c2', f1, _, _, d3, e3⟩ := HR.out _ _ _ hi1 k hlt
      simp at f1
      subst f1
      rw [e2] at e3
      rw [← e3] at d3
      have hc2 := HK.out _ _ _ hi1 l2
      rw [s2, e2] at hc2
      clear hc1 d1 d2 hi
      go_wp2_with fail
      refine hc2.mono ?_
      rintro e w2 ⟨rfl, J2, hi2⟩
      clear hc2 d3 hi1
      go_wp2
      go_roundw
      case rel => exact ⟨k + 1, J2, by omega, by go_num, hi2⟩
      case measure => simp [intOf]; omega
    · have e : k = l.length := by omega
      subst e
      clear HK HR HLS HST
      obtain ⟨ao', cap', ex, _, _, _, hfm⟩ := rowN_form hi.row
      simp only [Value.slice.injEq, true_and] at ex
      obtain ⟨rfl, rfl⟩ := ex
      have HF0 : Hid (FillU wr wr ao cap J.mkv 0) := by
        rcases hfm with ⟨rfl, rfl⟩ | ⟨g, cur, rfl, hh, hs⟩
        · exact Or.inl ⟨rfl, rfl, rfl, rfl, rfl, rfl⟩
        · exact Or.inr ⟨g, rfl, ⟨cur, hh, hs, fun j hj => by omega⟩, rfl, rfl, rfl, rfl, fun _ _ => rfl⟩
      have HFI : Hid (∀ wq, FillU wr wq ao cap J.mkv cap → AK wq B lb pt rt J ∧ (1 ≤ cap → FullN wq B (.slice ao cap cap) J.mkv) ∧ ChgS (SOwn lb K (.slice ao l.length cap) l) w wq) := fun wq hf => hi.filled H0.out hf hgB (by unfold maxLen; omega)
      have HLW : Hid (∀ wq k, FillU wr wq ao cap J.mkv k → wq.heap[lb]? = some (.cells #[pt, rt, J.xl, J.xm, J.xo, I J.mkv] 103 (0, 0))) := by
        intro wq k hf
        rw [(hf.chg (n := l.length)).block lb (Array.getElem?_eq_some_iff.1 hi.ak.law).1 fun hs => block_apart hi.ak.law hi.row (by decide) hs rfl]
        exact hi.ak.law
      have HJ : Hid (J.xs.length = K.xs.length + 2 * l.length ∧ J.os = K.os ∧ J.xo = K.xo ∧ J.mkv = K.mkv - 2 * l.length ∧ (∀ g, J.xm.ownBlock = some g → K.xm.ownBlock = some g ∨ w.heap.size ≤ g)) := ⟨hi.len, hi.os, hi.xo, by have := hi.mkE; omega, hi.xm⟩
      have hmj : -1000000000 ≤ J.mkv ∧ J.mkv ≤ -1000 := by have := hi.mkE; omega
      obtain ⟨mj1, mj2⟩ := hmj
      clear hi hfm
      generalize hmm : J.mkv = mk at *
      go_wp2_with fail
      go_loopw [6] (fun i wq => ∃ q : Nat, q ≤ cap ∧ i = .int .i64 q ∧ FillU wr wq ao cap mk q) (fun i _ => cap - (intOf i).toNat)
      case atStart => exact ⟨0, Nat.zero_le _, rfl, HF0.out⟩
      case round =>
        obtain ⟨q, hq, rfl, hf⟩ := hrel
        obtain ⟨g1, g2⟩ := nb_facts (HLW.out _ _ hf)
        have d5 := g1 5
        simp at d5
        by_cases hql : q < cap
        · rcases hf with ⟨_, e, _⟩ | ⟨g, rfl, hf⟩
          · omega
          obtain ⟨cur, q1, q2, q3⟩ := hf.blk
          obtain ⟨p1, p2⟩ := nb_facts q1
          have pk : ∀ t, t < 12 → ∃ u, wr.cell? ⟨g, q * 12 + t, none⟩ = some u := fun t ht => ⟨cur[q * 12 + t]'(by omega), by rw [p1]; exact Array.getElem?_eq_getElem (by omega)⟩
          have pf := p2
          have HNX : Hid _ := hf.node hql
          obtain ⟨u0, k0⟩ := pk 0 (by omega); obtain ⟨u1, k1⟩ := pk 1 (by omega); obtain ⟨u2, k2⟩ := pk 2 (by omega); obtain ⟨u3, k3⟩ := pk 3 (by omega); obtain ⟨u4, k4⟩ := pk 4 (by omega); obtain ⟨u5, k5⟩ := pk 5 (by omega)
          obtain ⟨u6, k6⟩ := pk 6 (by omega); obtain ⟨u7, k7⟩ := pk 7 (by omega); obtain ⟨u8, k8⟩ := pk 8 (by omega); obtain ⟨u9, k9⟩ := pk 9 (by omega); obtain ⟨u10, k10⟩ := pk 10 (by omega); obtain ⟨u11, k11⟩ := pk 11 (by omega)
          rw [Nat.add_zero] at k0
          have hqi : (q : Int) < cap := by omega
          have lg := cell_lt k0
          clear pk p1 p2 g1 g2 q1 q2 q3 hf HFI HLW HF0
          go_wp2
          go_roundw
          case rel => exact ⟨q + 1, by omega, by go_num, Or.inr ⟨g, rfl, HNX.out⟩⟩
          case measure => simp [intOf]; omega
        · have e : q = cap := by omega
          subst e
          obtain ⟨ha, hfn, hch⟩ := HFI.out _ hf
          clear HFI HLW HF0 hf g1 g2
          by_cases hc0 : q = 0
          · have hb0 : decide ((q : Int) > 0) = false := by simp; omega
            have HE : Hid (OwnE w B lb pt rt K (.slice ao l.length q) l wr) := by
              obtain ⟨j1, j2, j3, j4, j5⟩ := HJ.out
              exact ⟨J, ha, j1, by rw [j2]; omega, by rw [hmm]; exact j4, j5, hch⟩
            clear ha hfn hch HJ H0
            go_wp2
            exact bodyPost_end (v := .tuple #[]) (by simp [results, Try.results62, go_sem]) rfl ⟨rfl, HE.out⟩
          · have hb1 : decide ((q : Int) > 0) = true := by simp; omega
            have hfull := hfn (by omega)
            obtain ⟨i0, hi, hz0, hz1, hz2⟩ := info_parts Try.info40
            obtain ⟨g1, g2⟩ := nb_facts ha.law
            have d4 : wr.cell? ⟨lb, 4, none⟩ = some J.xo := by rw [g1 4]; rfl
            obtain ⟨al, cl, el, q1, q2, q3, _⟩ := ownsRow_cells ha.orow
            rw [el] at d4
            have ll2 := cell_lt d4
            have hBr : B ≤ wr.heap.size := Nat.le_trans H0.out.hB hch.size
            have hjo : J.os.length ≤ 90000000 := by rw [HJ.out.2.1]; exact hol
            unfold maxLen at q2 q3
            have HB2 : Hid (Below wr.heap.size wr (wr.alloc (.cells #[.slice ao q q] 40))) := (Below.refl _ _).alloc (Nat.le_refl _) _
            have HO : Hid ((wr.alloc (.cells #[.slice ao q q] 40)).ownsRow B 40 1 (.slice al J.os.length cl) J.os.length J.os) := by
              have := ownsRow_below ha.orow HB2.out (Nat.le_refl _)
              rw [el] at this
              exact this
            have HN : Hid (∀ j u, [Value.slice ao q q][j]? = some u → (wr.alloc (.cells #[.slice ao q q] 40)).cell? ((⟨wr.heap.size, 0, none⟩ : Addr).add j) = some u) := cells_new wr [.slice ao q q] 40
            have H1 : Hid (∀ u ∈ [Value.slice ao q q], u.oneCell' = true) := by
              intro u hu
              simp only [List.mem_cons, List.not_mem_nil, or_false] at hu
              subst hu
              rfl
            have HBB : Hid (B ≤ (wr.alloc (.cells #[.slice ao q q] 40)).heap.size) := by
              show B ≤ (wr.alloc _).heap.size
              simp; omega
            have HM : Hid (J.os.length + 1 ≤ maxLen) := by show _ ≤ _; unfold maxLen; omega
            have HY : Hid ((J.os.length + 1) * 24 ≤ 140737488355328) := by show _ ≤ _; omega
            have HH : Hid ((wr.alloc (.cells #[.slice ao q q] 40)).heap.size = wr.heap.size + 1) := by
              show (wr.alloc _).heap.size = _
              simp
            have HC : Hid (∀ w', (wr.alloc (.cells #[.slice ao q q] 40)).grownBy w' (Value.slice al J.os.length cl).ownBlock → w'.cell? ⟨lb, 4, none⟩ = some (.slice al J.os.length cl) ∧ w'.frozen? ⟨lb, 4, none⟩ = false) := by
              intro w' hg
              have h1 := ha.below HB2.out
              have hbk : w'.heap[lb]? = _ := (hg.block lb (Array.getElem?_eq_some_iff.1 h1.law).1 (fun e => block_apart h1.law HO.out (by decide) e.symm rfl)).trans h1.law
              obtain ⟨k1, k2⟩ := nb_facts hbk
              refine ⟨?_, k2 4⟩
              rw [k1 4, ← el]
              rfl
            have HP : Hid (∀ w' x, w'.ownsRow B 40 1 x (J.os.length + 1) (J.os ++ [.slice ao q q]) → (wr.alloc (.cells #[.slice ao q q] 40)).grownBy w' (Value.slice al J.os.length cl).ownBlock →
                OwnE w B lb pt rt K (.slice ao l.length q) l (w'.setCell ⟨lb, 4, none⟩ x)) := by
              intro w' x a1 a2
              rw [← el] at a2
              obtain ⟨b1, b2⟩ := AKm.pushO ha hfull mj2 HB2.out a1 a2
              obtain ⟨j1, j2, j3, j4, j5⟩ := HJ.out
              refine ⟨_, b1, j1, by show (J.os ++ _).length ≤ _; rw [j2]; simp, by show J.mkv = _; rw [hmm]; exact j4, j5, hch.trans' b2 fun j hj => ?_⟩
              rw [j3] at hj
              exact hj.elim (fun e => Or.inl (Or.inl e)) fun e => Or.inl (Or.inr (Or.inr (Or.inr (Or.inl e))))
            clear ha hfull hfn hch el H0 HJ g1 g2 d5
            go_wp2_with (at_builtin; go_must (refine wpList_append_lies _ rfl _ _ 101 rfl B 40 i0 _ 1 24 Try.underlying101 hi hz0 hz1 hz2 rfl (by decide) _ _ _ rfl HO.out ⟨wr.heap.size, 0, none⟩ 1 1 [.slice ao q q] rfl rfl HN.out H1.out (by decide) HM.out HY.out HBB.out (wr.heap.size + 1) HH.out ?_))
            intro g cp w4 ho4 hg4 hgc _
            obtain ⟨cc1, cc2⟩ := HC.out _ hg4
            have hfin := HP.out _ _ ho4 hg4
            replace hfin : Hid _ := hfin
            clear HP HC HH HY HM HBB H1 HN HO HB2 hg4 ho4 hgc
            go_wp2
            exact bodyPost_end (v := .tuple #[]) (by simp [results, Try.results62, go_sem]) rfl ⟨rfl, hfin.out⟩

end Go.Proofs.Ytjnmpejcegmkhaa

namespace Go.Proofs.Ytjnmpejcegmkhaa
open Go.RowKit
variable {Fr : Nat → Prop}

theorem NodesRep.base {w : World} {b b' : Nat} {x : Value} {l : List (ND × Value × Value)} (h : NodesRep w b x l) (hb : b' ≤ b) : NodesRep w b' x l :=
  ⟨ownsRow_mono h.row hb, fun y hy => ownsRow_mono (h.waiting y hy) hb, fun y hy => ownsRow_mono (h.items y hy) hb⟩

/-- What owns needs, behind a Nodes. -/
theorem own_given {w W w2 : World} {B lb : Nat} {pt rt : Value} {K : Kp} {x : Value} {l : List (ND × Value × Value)} (h : AK w B lb pt rt K) (hB : B ≤ w.heap.size) (hW : Below w.heap.size w W) (hr : NodesRep w2 W.heap.size x l) (hp : (lsOf l).Pairwise Apt) (h2 : Below W.heap.size W w2) : OwnH w2 B lb pt rt K x l where
  ak := (h.below hW).below h2
  hB := Nat.le_trans hB (Nat.le_trans hW.size h2.size)
  rep := hr.base (Nat.le_trans hB hW.size)
  pw := hp
  old := fun v hv y hy g hg hgy => by
    obtain ⟨n, xs, ho⟩ := hr.lists v hv
    have a1 := (ho.lt g hg).1
    obtain ⟨i, hi, rfl⟩ := List.getElem_of_mem hy
    have a2 := ((h.full i hi (by have := h.len; omega)).lt hgy).2
    have := hW.size
    omega
  oxm := fun v hv g hg hgm => by
    obtain ⟨n, xs, ho⟩ := hr.lists v hv
    have a1 := (ho.lt g hg).1
    have a2 := (h.mrow.lt g hgm).2
    have := hW.size
    omega
  oos := fun y hy g hg hgy => by
    have a1 := (hr.row.lt g hg).1
    obtain ⟨i, hi, rfl⟩ := List.getElem_of_mem hy
    obtain ⟨c, hc⟩ := (h.ofull i hi (by have := h.olen; omega)).typ hgy
    have a2 := (Array.getElem?_eq_some_iff.1 hc).1
    have := hW.size
    omega

/-- The types of what is written by its owner. -/
abbrev KT : List TypeId := [103, 27, 3, 40, 49]

theorem OwnH.typ {w : World} {B lb : Nat} {pt rt : Value} {K : Kp} {x : Value} {l : List (ND × Value × Value)} (h : OwnH w B lb pt rt K x l) {k : Nat} (hk : SOwn lb K x l k) : B ≤ k ∧ ∃ cur T, w.heap[k]? = some (.cells cur T (0, 0)) ∧ T ∈ KT := by
  rcases hk with rfl | hk | hk | hk | hk | ⟨v, hv, hk⟩
  · exact ⟨h.ak.hlb, _, _, h.ak.law, by simp⟩
  · obtain ⟨c, hc⟩ := ownsRow_block h.ak.lrow hk
    exact ⟨(h.ak.lrow.lt k hk).1, _, _, hc, by simp⟩
  · obtain ⟨c, hc⟩ := ownsRow_block h.ak.mrow hk
    exact ⟨(h.ak.mrow.lt k hk).1, _, _, hc, by simp⟩
  · obtain ⟨c, hc⟩ := ownsRow_block h.ak.orow hk
    exact ⟨(h.ak.orow.lt k hk).1, _, _, hc, by simp⟩
  · obtain ⟨c, hc⟩ := ownsRow_block h.rep.row hk
    exact ⟨(h.rep.row.lt k hk).1, _, _, hc, by simp⟩
  · obtain ⟨n, xs, ho⟩ := h.rep.lists v hv
    obtain ⟨c, hc⟩ := ownsRow_block ho hk
    exact ⟨(ho.lt k hk).1, _, _, hc, by simp⟩

theorem OwnH.chg {w w' : World} {B lb : Nat} {pt rt : Value} {K : Kp} {x : Value} {l : List (ND × Value × Value)} (h : OwnH w B lb pt rt K x l) (hc : ChgS (SOwn lb K x l) w w') : ChgT B KT w w' :=
  ⟨hc.os, hc.tape, hc.output, hc.size, fun k hk hq => hc.block k hk fun hs => by
    obtain ⟨h1, cur, T, h2, h3⟩ := h.typ hs
    rcases hq with hq | hq
    · omega
    · exact hq _ _ _ h2 h3⟩

/-- The document's tree stays, and is from now on apart from where the marks lie now. -/
theorem RefRep.owned {w0 w w' : World} {B lb : Nat} {pt rt : Value} {K J : Kp} {x : Value} {l : List (ND × Value × Value)} {L : Lay} (hr0 : RefRep Fr w0 B L) (hr : RefRep Fr w B L) (h : OwnH w B lb pt rt K x l) (hl0 : ∀ v ∈ lsOf l, ∀ g, v.ownBlock = some g → w0.heap.size ≤ g) (hmF : ∀ g, K.xm.ownBlock = some g → Fr g)
    (hc : ChgS (SOwn lb K x l) w w') (hj : AK w' B lb pt rt J) (hx : ∀ g, J.xm.ownBlock = some g → K.xm.ownBlock = some g ∨ w.heap.size ≤ g) : RefRep (fun k => J.xm.ownBlock = some k) w' B L := by
  have hct := h.chg hc
  refine RefRep.mk (hct.at hr.tree (by decide)) hr.treeB (hct.row hr.prow (by decide)) (fun i hi => ⟨hct.at (hr.pblk i hi).1 (by decide), (hr.pblk i hi).2⟩) hr.pnd (hct.row hr.hrow (by decide)) (fun i hi => hct.row (hr.hist i hi) (by decide)) (fun i hi y hy => ?_) hr.hnd ⟨fun k hk => (hj.mrow.lt k hk).2, fun i hi y hy g hg hk => ?_⟩
  · refine hc.row (hr.items i hi y hy) fun g hg hs => ?_
    have ho := hr.items i hi y hy
    rcases hs with hs | hs | hs | hs | hs | ⟨v, hv, hs⟩
    · exact block_apart h.ak.law ho (by decide) hg hs
    · exact types_apart ho h.ak.lrow (by decide) hg hs
    · exact hr.far.2 i hi y hy g hg (hmF g hs)
    · exact types_apart ho h.ak.orow (by decide) hg hs
    · exact types_apart ho h.rep.row (by decide) hg hs
    · have a1 := hl0 v hv g hs
      have a2 := ((hr0.items i hi y hy).lt g hg).2
      omega
  · rcases hx g hk with h1 | h1
    · exact hr.far.2 i hi y hy g hg (hmF g h1)
    · have := ((hr.items i hi y hy).lt g hg).2
      omega

/-- How much may be kept behind j steps. -/
structure KB (K : Kp) (j : Nat) : Prop where
  xs : K.xs.length ≤ 64 * j
  os : K.os.length ≤ j
  m1 : -1000 - 64 * (j : Int) ≤ K.mkv
  m2 : K.mkv ≤ -1000
theorem KB.mono {K : Kp} {j i : Nat} (h : KB K j) (hi : j ≤ i) : KB K i := ⟨by have := h.xs; omega, by have := h.os; omega, by have := h.m1; omega, h.m2⟩

set_option maxHeartbeats 4000000 in
theorem astep_ten {w : World} {B : Nat} {c : Conf} {lb : Nat} {L : Lay} {P : PLay} {K : Kp} (h : ASt Fr w B c lb L P K) (j : Nat) (hj : j ≤ 1048576) (hk : KB K j) (a b : Int) :
    Calls Try.prog 33 #[.pointer (some ⟨lb, 0, none⟩), .agg #[I 10, I a, I b]] w fun e w' => e = .returned (.bool true) ∧ (∃ (Fr : Nat → Prop) (K' : Kp), ASt Fr w' B c lb L P K' ∧ KB K' (j + 1)) ∧ Below B w w' := by
  have hlen : 1 ≤ L.past.length := by have := h.rel.rel.lenle; omega
  have HS : Hid (∀ W, Below w.heap.size w W → Calls Try.prog 61 #[.pointer (some ⟨lb, 0, none⟩)] W fun e w' => e = .returned (.bool true) ∧ Below W.heap.size W w') :=
    fun W (hb : Below w.heap.size w W) => sameNodes_agree (h.below hb).lawRep (h.below hb).ref h.rel.rel.ok hlen (h.rel.rel.agree h.rel.ck.si (h.below hb).prog)
  have hcf := h.rel.rel.confs
  have HN : Hid (∀ W, Below w.heap.size w W → Calls Try.prog 17 #[.pointer (some ⟨P.tb, 0, none⟩)] W fun e w' => ∃ x l, e = .returned x ∧ NodesRep w' W.heap.size x l ∧ l.length ≤ 32 ∧ Below W.heap.size W w' ∧ (lsOf l).Pairwise Apt) := by
    intro W hb
    refine (pnodes_c2 (h.below hb).prog (by rw [h.rel.rel.cP]; omega) (by rw [h.rel.rel.cP]; omega) ?_).mono ?_
    · intro v h1 hv
      have := h.rel.rel.isz v h1 (by have := h.prog.len; omega)
      rw [List.getD_eq_getElem?_getD, List.getElem?_eq_getElem hv] at this
      simp only [Option.getD_some] at this
      omega
    · rintro e w' ⟨x, l, he, h1, h2, h3, h4⟩
      refine ⟨x, l, he, h1, ?_, h3, h4⟩
      have := congrArg List.length h2
      simp only [List.length_map] at this
      have h5 := pnodesTo_le P 32
      rw [this]
      exact h5
  have f0 : w.cell? ⟨lb, 0, none⟩ = some (.pointer (some ⟨P.tb, 0, none⟩)) := h.lawRep.c0
  have l0 := cell_lt f0
  have HO : Hid (∀ W w2 x l, Below w.heap.size w W → NodesRep w2 W.heap.size x l → l.length ≤ 32 → Below W.heap.size W w2 → (lsOf l).Pairwise Apt → Calls Try.prog 62 #[.pointer (some ⟨lb, 0, none⟩), x] w2 fun e w' => e = .returned (.tuple #[]) ∧ (∃ (Fr : Nat → Prop) (K' : Kp), ASt Fr w' B c lb L P K' ∧ KB K' (j + 1)) ∧ Below B w w') := by
    intro W w2 x l hW hr hl h2 hp
    have h0 := own_given h.ak h.hB hW hr hp h2
    have k1 := hk.xs
    have k2 := hk.os
    have k3 := hk.m1
    have k4 := hk.m2
    refine (owns_c h0 hl (by omega) k4 (by omega) (by omega)).mono ?_
    rintro e w' ⟨rfl, J, hj1, j2, j3, j4, j5, j6⟩
    have hct := h0.chg j6
    have hb2 : Below w.heap.size w w2 := hW.trans (h2.mono hW.size)
    have hr0 := (h.below hW).ref
    have hr2 := (h.below hb2).ref
    refine ⟨rfl, ⟨fun k => J.xm.ownBlock = some k, J, ASt.mk hj1 (hr0.owned hr2 h0 (fun v hv g hg => by obtain ⟨n, xs, ho⟩ := hr.lists v hv; exact (ho.lt g hg).1) h.mF j6 hj1 j5) ((h.below hb2).prog.chg hct (by decide) (by decide) (by decide)) h.rel (Nat.le_trans h0.hB hct.size) (fun g hg => hg), ⟨by omega, by omega, by omega, by omega⟩⟩, (hb2.mono h.hB).trans (hct.below h0.hB)⟩
  clear hlen hcf hk h
  go_enter Try.func33, Try.ntmps33
  go_wp2_with fail
  refine (HS.out _ ((Below.refl _ _).alloc (Nat.le_refl _) _)).mono ?_
  rintro e w1 ⟨rfl, hb1⟩
  have hb2 : Below w.heap.size w w1 := ((Below.refl _ _).alloc (Nat.le_refl _) _).trans (hb1.mono (by simp))
  have g0 := (hb2.cell (p := ⟨lb, 0, none⟩) l0).trans f0
  clear hb1 HS
  go_wp2_with fail
  refine (HN.out _ hb2).mono ?_
  rintro e w2 ⟨x, l, rfl, hr, hl, hb3, hp⟩
  have hco := HO.out _ _ _ _ hb2 hr hl hb3 hp
  obtain ⟨ao, cap, rfl, _⟩ := ownsRow_cells hr.row
  clear HN HO hr hl hp
  go_wp2_with fail
  refine hco.mono ?_
  rintro e w3 ⟨rfl, hfin⟩
  replace hfin : Hid _ := hfin
  clear hco
  go_wp2
  go_ret
  exact ⟨rfl, hfin.out⟩


end Go.Proofs.Ytjnmpejcegmkhaa
