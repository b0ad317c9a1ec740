/- Rest, of the program and of the document: both take the same steps. Rest of the document. No statement of the seat is proved here. Texts: how a script is read into its commands, and how a command is spelt; what is spelt is read back. Of no program. No statement of the seat is proved here. The texts of the answers: numbers, processes, leaves; how long they are. Of no memory. No statement of the seat is proved here. Trees of the document, in no memory: what each command of a script answers, as a text; how great the numbers in a tree are. Of no memory. No statement of the seat is proved here. Itoa: a number's decimal text; what lay there stays. No statement of the seat is proved here. A tree of the program in memory, the document's tree beside it in no memory: the contracts of Spawn, Step, Rest, Proc, Nodes by the document's answers alone. No statement of the seat is proved here. The program's reader of texts: contracts of isDigit, skip, readNumber. No statement of the seat is proved here. Texts, read by their parts: what the reader takes of a script is what its parts are, each for itself. Of no program. No statement of the seat is proved here. -/
import Derived.Test.YtjnmpejcegmkhaaGreatDoorDBoth
import Derived.Lib.ItoaMem
import Derived.Test.YtjnmpejcegmkhaaGreatDoorRefA
import Derived.Test.YtjnmpejcegmkhaaGreatDoorIto
import Derived.Lib.AppendIntMem
import Derived.Below
import Derived.Test.YtjnmpejcegmkhaaGreatDoorRefB
import Derived.Deep.QuietTactic
import Derived.BigQuiet
namespace Go.Proofs.YtjnmpejcegmkhaaGreatDoor
open Go.RowKit

theorem len_ite {p : Prop} [Decidable p] {a b : Lay} {n : Nat} (h1 : p → a.procs.length = n) (h2 : ¬ p → b.procs.length = n) : (if p then a else b).procs.length = n := by
  by_cases hp : p
  · rw [if_pos hp]; exact h1 hp
  · rw [if_neg hp]; exact h2 hp
theorem lstep_len (L : Lay) (i : Nat) (d : Int) : (lstep L i d).procs.length = L.procs.length := by
  unfold lstep
  cases L.procs[i]? with
  | none => rfl
  | some x =>
    simp only
    refine len_ite (fun _ => ?_) (fun _ => len_ite (fun _ => by simp) (fun _ => len_ite (fun _ => by simp) (fun _ => len_ite (fun _ => by simp) (fun _ => len_ite (fun _ => len_ite (fun _ => by simp) (fun _ => len_ite (fun _ => by simp) (fun _ => by simp))) (fun _ => len_ite (fun _ => len_ite (fun _ => by simp) (fun _ => by simp)) (fun _ => len_ite (fun _ => ?_) (fun _ => len_ite (fun _ => len_ite (fun _ => by simp) (fun _ => len_ite (fun _ => by simp) (fun _ => by simp))) (fun _ => by simp))))))))
    · cases L.procs[(incPr x.2).mind.toNat]? with
      | none => simp
      | some y => exact len_ite (fun _ => by simp) (fun _ => by simp)
    · cases itemH (L.hist (incPr x.2).node.toNat) (incPr x.2).ticket with
      | none => simp
      | some z => simp

theorem CRel.next {c : Conf} {B : Nat} {L : Lay} {P : PLay} (h : CRel c L P) {i : Nat} (hi : i < L.procs.length) (hl : (L.procs[i]).2.phase ≠ 20) (draw : Int) :
    ∃ ph, ProgStep B P i draw ph (fun P' => P'.tb = P.tb ∧ CRel c (lstep L i draw) P') ∧ RefStep B L i draw ph (fun L' => L'.tb = L.tb ∧ Same (lstep L i draw) L') ∧ ∃ P', CRel c (lstep L i draw) P' := by
  obtain ⟨v, n, hh⟩ := h.rel.here hi hl
  obtain ⟨ph, FP, FL, h1, h2, h3, ⟨⟨P0, hP0⟩, ⟨L0, hL0⟩, h4⟩, h5, h6⟩ := hh.both (B := B) h.ck draw
  have key : ∀ P', FP P' → CRel c (lstep L i draw) P' := fun P' hP => (h1 L0 P' hL0 hP).same (h4 L0 hL0).symm
  refine ⟨ph, ⟨fun W a b => (h5.1 W a b).mono ?_, fun W a b => (h5.2.1 W a b).mono ?_, fun P' hP' => ?_⟩, fun W a b => (h6 W a b).mono ?_, P0, key P0 hP0⟩
  · rintro e w' ⟨e0, ⟨P', x, y⟩, z⟩
    exact ⟨e0, ⟨P', ⟨h2 P' x, key P' x⟩, y⟩, z⟩
  · rintro e w' ⟨e0, ⟨P', x, y⟩, z⟩
    exact ⟨e0, ⟨P', ⟨h2 P' x, key P' x⟩, y⟩, z⟩
  · have e1 := (key P0 hP0).rel.procs
    have e2 := hP'.2.rel.procs
    rw [e2, ← e1]
    exact h5.2.2 P0 hP0
  · rintro e w' ⟨e0, ⟨L', x, y⟩, z⟩
    exact ⟨e0, ⟨L', ⟨h3 L' x, h4 L' x⟩, y⟩, z⟩

/-- The document's step, with the phase that comes of it. -/
theorem CRel.nextR {c : Conf} {B : Nat} {L : Lay} {P : PLay} (h : CRel c L P) {i : Nat} (hi : i < L.procs.length) (hl : (L.procs[i]).2.phase ≠ 20) (draw : Int) :
    RefStep B L i draw ((lstep L i draw).procs.getD i (0, newPr ⟨0, 0, 0⟩)).2.phase (fun L' => L'.tb = L.tb ∧ Same (lstep L i draw) L') := by
  obtain ⟨v, n, hh⟩ := h.rel.here hi hl
  obtain ⟨ph, FP, FL, h1, h2, h3, ⟨⟨P0, hP0⟩, ⟨L0, hL0⟩, h4⟩, h5, h6⟩ := hh.both (B := B) h.ck draw
  have hr := (h1 L0 P0 hL0 hP0).same (h4 L0 hL0).symm
  have hi2 : i < (lstep L i draw).procs.length := by rw [lstep_len]; exact hi
  have e := h5.2.2 P0 hP0
  rw [hr.rel.procs, List.getD_eq_getElem?_getD, List.getElem?_map, List.getElem?_eq_getElem hi2] at e
  have e2 : ((lstep L i draw).procs.getD i (0, newPr ⟨0, 0, 0⟩)).2.phase = ph := by
    rw [List.getD_eq_getElem?_getD, List.getElem?_eq_getElem hi2]
    exact e
  rw [e2]
  refine fun W a b => (h6 W a b).mono ?_
  rintro e w' ⟨e0, ⟨L', x, y⟩, z⟩
  exact ⟨e0, ⟨L', ⟨h3 L' x, h4 L' x⟩, y⟩, z⟩

/-- The first k processes take their step of a round. -/
def lroundTo (L : Lay) (d : Int) : Nat → Lay
  | 0 => L
  | k + 1 => if ((lroundTo L d k).procs.getD k (0, newPr ⟨0, 0, 0⟩)).2.phase = 20 then lroundTo L d k else lstep (lroundTo L d k) k (d + k)
theorem lroundTo_len (L : Lay) (d : Int) : ∀ k, (lroundTo L d k).procs.length = L.procs.length
  | 0 => rfl
  | k + 1 => by
    unfold lroundTo
    split
    · exact lroundTo_len L d k
    · rw [lstep_len, lroundTo_len L d k]
def lrest (L : Lay) (m : Int) : Nat → Lay
  | 0 => L
  | r + 1 => lroundTo (lrest L m r) (m + r) L.procs.length
theorem lrest_len (L : Lay) (m : Int) : ∀ r, (lrest L m r).procs.length = L.procs.length
  | 0 => rfl
  | r + 1 => by unfold lrest; rw [lroundTo_len, lrest_len L m r]

theorem lroundTo_same {L L' : Lay} (h : Same L L') (d : Int) : ∀ k, Same (lroundTo L d k) (lroundTo L' d k)
  | 0 => h
  | k + 1 => by
    have ih := lroundTo_same h d k
    obtain ⟨hl, hg⟩ := snds_at ih.procs
    have e : ((lroundTo L' d k).procs.getD k (0, newPr ⟨0, 0, 0⟩)).2.phase = ((lroundTo L d k).procs.getD k (0, newPr ⟨0, 0, 0⟩)).2.phase := by
      by_cases hk : k < (lroundTo L d k).procs.length
      · rw [List.getD_eq_getElem?_getD, List.getD_eq_getElem?_getD, List.getElem?_eq_getElem hk, List.getElem?_eq_getElem (by omega : k < (lroundTo L' d k).procs.length)]
        simp only [Option.getD_some, hg k hk (by omega)]
      · rw [List.getD_eq_getElem?_getD, List.getD_eq_getElem?_getD, List.getElem?_eq_none (by omega), List.getElem?_eq_none (by omega)]
    unfold lroundTo
    rw [e]
    exact same_ite (fun _ => ih) (fun _ => lstep_same ih k _)

theorem CRel.plen {c : Conf} {L : Lay} {P : PLay} (h : CRel c L P) : P.procs.length = L.procs.length := by rw [h.rel.procs, List.length_map]
theorem CRel.pphase {c : Conf} {L : Lay} {P : PLay} (h : CRel c L P) (k : Nat) (hk : k < L.procs.length) (hk' : k < P.procs.length) : (P.procs[k]).phase = (L.procs[k]).2.phase := by
  have : P.procs[k] = toPP (L.procs[k]).2 := by simp [h.rel.procs]
  rw [this]
  rfl

set_option maxHeartbeats 4000000 in
theorem pround_c {c : Conf} {w : World} {B : Nat} {L : Lay} {P : PLay} (hr : CRel c L P) (h : PRep w B P) (hB : B ≤ w.heap.size) (d : Int) (hd0 : 0 ≤ d) (hd : d ≤ 1000) :
    Calls Tryz.prog 45 #[.pointer (some ⟨P.tb, 0, none⟩), I d] w fun e w' => e = .returned (.tuple #[]) ∧ (∃ P', P'.tb = P.tb ∧ CRel c (lroundTo L d L.procs.length) P' ∧ PRep w' B P') ∧ ChgT B [61, 96, 148] w w' := by
  have hnp := hr.rel.np
  have HK : Hid (∀ (k : Nat) (P' : PLay) (wr : World), k < L.procs.length → CRel c (lroundTo L d k) P' → PRep wr B P' → P'.tb = P.tb →
      ∃ (g : Nat) (cap : Nat) (ph : Int), wr.cell? ⟨P.tb, 680, none⟩ = some (.slice (some ⟨g, 0, none⟩) L.procs.length cap) ∧ L.procs.length ≤ cap ∧ cap ≤ 2 ^ 63 - 1 ∧ wr.cell? ⟨g, k * 11 + 3, none⟩ = some (I ph) ∧
        (ph = 20 → CRel c (lroundTo L d (k + 1)) P') ∧ (ph ≠ 20 → B ≤ wr.heap.size → Calls Tryz.prog 42 #[.pointer (some ⟨P.tb, 0, none⟩), I k, I (d + k)] wr fun e w' => e = .returned (.tuple #[]) ∧ (∃ P'', P''.tb = P.tb ∧ CRel c (lroundTo L d (k + 1)) P'' ∧ PRep w' B P'') ∧ ChgT B [61, 96, 148] wr w')) := by
    intro k P' wr hk hc hp htb
    have hlL := lroundTo_len L d k
    have hlP := hc.plen
    obtain ⟨ao, cap, e1, q1, q2, q3, hx⟩ := hp.pp_at
    have p1 := hp.pcell
    have hkP : k < P'.procs.length := by omega
    have hkL : k < (lroundTo L d k).procs.length := by omega
    obtain ⟨g, rfl, hf⟩ := hx k hkP
    have hph := hc.pphase k hkL hkP
    have eg : (lroundTo L d k).procs.getD k (0, newPr ⟨0, 0, 0⟩) = (lroundTo L d k).procs[k] := by simp [List.getD_eq_getElem?_getD, List.getElem?_eq_getElem hkL]
    have el : P'.procs.length = L.procs.length := by omega
    rw [e1, el, htb] at p1
    refine ⟨g, cap, (P'.procs[k]).phase, p1, by omega, by unfold maxLen at q3; omega, hf 3 (by omega), fun h20 => ?_, fun h20 hBr => ?_⟩
    · unfold lroundTo
      rw [eg, if_pos (by rw [← hph]; exact h20)]
      exact hc
    · obtain ⟨ph, hp1, _, _⟩ := hc.next (B := B) hkL (by rw [← hph]; exact h20) (d + k)
      have := hp1.1 wr hp hBr
      rw [htb] at this
      refine this.mono ?_
      rintro e w' ⟨e0, ⟨P'', ⟨a, b⟩, y⟩, z⟩
      refine ⟨e0, ⟨P'', a, ?_, y⟩, z⟩
      unfold lroundTo
      rw [eg, if_neg (by rw [← hph]; exact h20)]
      exact b
  have HE : Hid (∀ (P' : PLay) (wr : World) (k : Nat), CRel c (lroundTo L d k) P' → PRep wr B P' → P'.tb = P.tb → ∃ ao cap, wr.cell? ⟨P.tb, 680, none⟩ = some (.slice ao L.procs.length cap)) := by
    intro P' wr k hc hp htb
    obtain ⟨ao, cap, e1, _⟩ := hp.pp_at
    have p1 := hp.pcell
    have hlL := lroundTo_len L d k
    have hlP := hc.plen
    have el : P'.procs.length = L.procs.length := by omega
    rw [e1, el, htb] at p1
    exact ⟨ao, cap, p1⟩
  have H0 : Hid (CRel c (lroundTo L d 0) P) := hr
  clear hr
  generalize hn : L.procs.length = np at *
  go_enter Tryz.func45, Tryz.ntmps45
  go_wp2_with fail
  go_loopw [4] (fun i wr => ∃ (k : Nat) (P' : PLay), k ≤ np ∧ i = .int .i64 k ∧ P'.tb = P.tb ∧ CRel c (lroundTo L d k) P' ∧ PRep wr B P' ∧ ChgT B [61, 96, 148] w wr) (fun i _ => np - (intOf i).toNat)
  case atStart => exact ⟨0, P, by omega, rfl, rfl, H0.out, h, ChgT.refl _ _ _⟩
  case round =>
    obtain ⟨k, P', hk, rfl, htb, hc, hp, hch⟩ := hrel
    have hBr : B ≤ wr.heap.size := Nat.le_trans hB hch.size
    by_cases hlt : k < np
    · obtain ⟨g, cap, ph, p1, p2, p3, c3, hd20, hst⟩ := HK.out k P' wr hlt hc hp htb
      by_cases h20 : ph = 20
      · have hc' := hd20 h20
        have b1 : (ph != 20) = false := by simp [h20]
        replace hc' : Hid _ := hc'
        replace hch : Hid _ := hch
        replace hp : Hid _ := hp
        replace htb : Hid _ := htb
        clear hd20 hst h20 hc
        go_wp2
        go_roundw
        case rel => exact ⟨k + 1, P', by omega, by go_num, htb.out, hc'.out, hp.out, hch.out⟩
        case measure => simp [intOf]; omega
      · have hcall := hst h20 hBr
        have b1 : (ph != 20) = true := by simp [h20]
        replace hcall : Hid _ := hcall
        replace hch : Hid _ := hch
        clear hd20 hst h20 hc hp htb
        go_wp2_with fail
        refine Calls.mono hcall.out ?_
        rintro e w' ⟨rfl, ⟨P'', t1, t2, t3⟩, t4⟩
        have hch2 := hch.out.trans t4
        replace t1 : Hid _ := t1
        replace t2 : Hid _ := t2
        replace t3 : Hid _ := t3
        replace hch2 : Hid _ := hch2
        clear hcall hch t4 p1 c3
        go_wp2
        go_roundw
        case rel => exact ⟨k + 1, P'', by omega, by go_num, t1.out, t2.out, t3.out, hch2.out⟩
        case measure => simp [intOf]; omega
    · have ek : k = np := by omega
      obtain ⟨ao, cap, p1⟩ := HE.out P' wr k hc hp htb
      subst ek
      replace hc : Hid _ := hc
      replace hch : Hid _ := hch
      replace hp : Hid _ := hp
      replace htb : Hid _ := htb
      go_wp2_with fail
      go_end0
      exact ⟨rfl, ⟨P', htb.out, hc.out, hp.out⟩, hch.out⟩

set_option maxHeartbeats 4000000 in
theorem prest_ok {c : Conf} {w : World} {B : Nat} {L : Lay} {P : PLay} (hr : CRel c L P) (h : PRep w B P) (hB : B ≤ w.heap.size) (r : Nat) (hr9 : r ≤ 100) (draw : Int) :
    Calls Tryz.prog 24 #[.pointer (some ⟨P.tb, 0, none⟩), I r, I draw] w fun e w' => e = .returned (.tuple #[I (liveL (lrest L (draw % 12) r).procs), I 0]) ∧ (∃ P', P'.tb = P.tb ∧ CRel c (lrest L (draw % 12) r) P' ∧ PRep w' B P') ∧ ChgT B [61, 96, 148] w w' := by
  have hm := fun W => modulo_c draw 12 (by omega) (by omega) W
  have m0 := Int.emod_nonneg draw (show (12 : Int) ≠ 0 by omega)
  have m1 := Int.emod_lt_of_pos draw (show (0 : Int) < 12 by omega)
  have hm' : ∀ W, Calls Tryz.prog 44 #[I draw, I 12] W fun e w' => e = .returned (I (draw % 12)) ∧ w' = W := hm
  clear hm
  have HR : Hid (∀ (k : Nat) (P' : PLay) (wr : World), k < r → CRel c (lrest L (draw % 12) k) P' → PRep wr B P' → P'.tb = P.tb → B ≤ wr.heap.size → Calls Tryz.prog 45 #[.pointer (some ⟨P.tb, 0, none⟩), I (draw % 12 + k)] wr fun e w' => e = .returned (.tuple #[]) ∧ (∃ P'', P''.tb = P.tb ∧ CRel c (lrest L (draw % 12) (k + 1)) P'' ∧ PRep w' B P'') ∧ ChgT B [61, 96, 148] wr w') := by
    intro k P' wr hk hc hp htb hBr
    have := pround_c hc hp hBr (draw % 12 + k) (by omega) (by omega)
    rw [htb, lrest_len] at this
    exact this
  have HL : Hid (∀ (P' : PLay) (wr : World), CRel c (lrest L (draw % 12) r) P' → PRep wr B P' → P'.tb = P.tb → Calls Tryz.prog 46 #[.pointer (some ⟨P.tb, 0, none⟩)] wr fun e w' => e = .returned (I (liveL (lrest L (draw % 12) r).procs)) ∧ w' = wr) := by
    intro P' wr hc hp htb
    have := plive_c hp
    rw [htb, plive_w hc.rel] at this
    exact this
  have H0 : Hid (CRel c (lrest L (draw % 12) 0) P) := hr
  replace hm' : Hid _ := hm'
  clear hr
  generalize draw % 12 = m at *
  have hrn : decide ((r : Int) < 0) = false := by simp
  have hr1 : decide ((100 : Int) < (r : Int)) = false := by simp; omega
  go_enter Tryz.func24, Tryz.ntmps24
  go_wp2_with fail
  refine Calls.mono (hm'.out _) ?_
  rintro e w1 ⟨rfl, rfl⟩
  clear hm'
  go_wp2_with fail
  go_loopw [9] (fun i wr => ∃ (k : Nat) (P' : PLay), k ≤ r ∧ i = .int .i64 k ∧ P'.tb = P.tb ∧ CRel c (lrest L m k) P' ∧ PRep wr B P' ∧ ChgT B [61, 96, 148] w1 wr) (fun i _ => r - (intOf i).toNat)
  case atStart => exact ⟨0, P, by omega, rfl, rfl, H0.out, h, ChgT.refl _ _ _⟩
  case round =>
    obtain ⟨k, P', hk, rfl, htb, hc, hp, hch⟩ := hrel
    have hBr : B ≤ wr.heap.size := Nat.le_trans hB hch.size
    by_cases hlt : k < r
    · have hcall := HR.out k P' wr hlt hc hp htb hBr
      replace hcall : Hid _ := hcall
      replace hch : Hid _ := hch
      clear hc hp htb
      go_wp2_with fail
      refine Calls.mono hcall.out ?_
      rintro e w' ⟨rfl, ⟨P'', t1, t2, t3⟩, t4⟩
      have hch2 := hch.out.trans t4
      replace t1 : Hid _ := t1
      replace t2 : Hid _ := t2
      replace t3 : Hid _ := t3
      replace hch2 : Hid _ := hch2
      clear hcall hch t4
      go_wp2
      go_roundw
      case rel => exact ⟨k + 1, P'', by omega, by go_num, t1.out, t2.out, t3.out, hch2.out⟩
      case measure => simp [intOf]; omega
    · have ek : k = r := by omega
      subst ek
      have hcall := HL.out P' wr hc hp htb
      replace hcall : Hid _ := hcall
      replace hc : Hid _ := hc
      replace hch : Hid _ := hch
      replace hp : Hid _ := hp
      replace htb : Hid _ := htb
      obtain ⟨lv, hlv⟩ : ∃ lv, lv = liveL (lrest L m k).procs := ⟨_, rfl⟩
      rw [← hlv] at hcall
      have HLV : Hid (lv = liveL (lrest L m k).procs) := hlv
      clear hlv
      go_wp2_with fail
      refine Calls.mono hcall.out ?_
      rintro e w' ⟨rfl, rfl⟩
      go_wp2
      go_ret2
      refine ⟨?_, ⟨P', htb.out, hc.out, hp.out⟩, hch.out⟩
      rw [← HLV.out]
      rfl

set_option maxHeartbeats 2000000 in
theorem prest_err {w : World} (tb : Nat) (a b : Int) (ha : a < 0 ∨ 100 < a) :
    Calls Tryz.prog 24 #[.pointer (some ⟨tb, 0, none⟩), I a, I b] w fun e w' => e = .returned (.tuple #[I 0, I 6]) ∧ w' = w := by
  by_cases h0 : a < 0
  · clear ha
    go_enter Tryz.func24, Tryz.ntmps24
    go_wp2
    go_ret2
    exact ⟨rfl, rfl⟩
  · have hd : decide (a < 0) = false := by simp; omega
    have h1 : 100 < a := by omega
    clear ha h0
    go_enter Tryz.func24, Tryz.ntmps24
    go_wp2
    go_ret2
    exact ⟨rfl, rfl⟩

set_option maxHeartbeats 2000000 in
theorem rrest_err {w : World} (tb : Nat) (a b : Int) (ha : a < 0 ∨ 100 < a) :
    Calls Tryz.prog 37 #[.pointer (some ⟨tb, 0, none⟩), I a, I b] w fun e w' => e = .returned (.tuple #[I 0, I 6]) ∧ w' = w := by
  by_cases h0 : a < 0
  · clear ha
    go_enter Tryz.func37, Tryz.ntmps37
    go_wp2
    go_ret2
    exact ⟨rfl, rfl⟩
  · have hd : decide (a < 0) = false := by simp; omega
    have h1 : 100 < a := by omega
    clear ha h0
    go_enter Tryz.func37, Tryz.ntmps37
    go_wp2
    go_ret2
    exact ⟨rfl, rfl⟩

/-- What is held in the midst of a Rest of the document: its tree is D but for the places of memory. -/
structure RSt (wr : World) (B : Nat) (c : Conf) (tb : Nat) (D L' : Lay) : Prop where
  tb : L'.tb = tb
  same : Same D L'
  rel : ∃ P', CRel c L' P'
  rep : RefRep wr B L'

set_option maxHeartbeats 8000000 in
theorem rrest_ok {c : Conf} {w : World} {B : Nat} {L : Lay} {P : PLay} (hr : CRel c L P) (h : RefRep w B L) (hB : B ≤ w.heap.size) (r : Nat) (hr9 : r ≤ 100) (draw : Int) :
    Calls Tryz.prog 37 #[.pointer (some ⟨L.tb, 0, none⟩), I r, I draw] w fun e w' => e = .returned (.tuple #[I (liveL (lrest L (draw % 12) r).procs), I 0]) ∧ (∃ L', L'.tb = L.tb ∧ Same (lrest L (draw % 12) r) L' ∧ RefRep w' B L') ∧ ChgT B [91, 69, 109] w w' := by
  have hm := fun W => remainder_c draw 12 (by omega) (by omega) W
  have hnp := hr.rel.np
  have m0 := Int.emod_nonneg draw (show (12 : Int) ≠ 0 by omega)
  have m1 := Int.emod_lt_of_pos draw (show (0 : Int) < 12 by omega)
  have hm' : ∀ W, Calls Tryz.prog 62 #[I draw, I 12] W fun e w' => e = .returned (I (draw % 12)) ∧ w' = W := hm
  clear hm
  have HLEN : Hid (∀ D L' wr, RSt wr B c L.tb D L' → D.procs.length = L.procs.length → ∃ ao cap, wr.cell? ⟨L.tb, 8, none⟩ = some (.slice ao L.procs.length cap)) := by
    intro D L' wr hs hl
    have h1 := hs.rep.pv_cell
    obtain ⟨ao, cap, e1, _⟩ := hs.rep.proc_at
    have hl' := (snds_at hs.same.procs).1
    rw [e1, show L'.procs.length = L.procs.length from by omega, hs.tb] at h1
    exact ⟨ao, cap, h1⟩
  have HST : Hid (∀ (D L' : Lay) (wr : World) (j k : Nat), RSt wr B c L.tb (lroundTo D (draw % 12 + j) k) L' → D.procs.length = L.procs.length → k < L.procs.length → B ≤ wr.heap.size →
      Calls Tryz.prog 36 #[.pointer (some ⟨L.tb, 0, none⟩), I k, I (draw % 12 + j + k)] wr fun e w' => (∃ a b, e = .returned (.tuple #[I a, I b])) ∧ (∃ L'', RSt w' B c L.tb (lroundTo D (draw % 12 + j) (k + 1)) L'') ∧ ChgT B [91, 69, 109] wr w') := by
    intro D L' wr j k hs hl hk hBr
    obtain ⟨P', hP'⟩ := hs.rel
    obtain ⟨sl, sg⟩ := snds_at hs.same.procs
    have hlD := lroundTo_len D (draw % 12 + j) k
    have hkD : k < (lroundTo D (draw % 12 + j) k).procs.length := by omega
    have hkL : k < L'.procs.length := by omega
    have eph := sg k hkD hkL
    have eg : (lroundTo D (draw % 12 + j) k).procs.getD k (0, newPr ⟨0, 0, 0⟩) = (lroundTo D (draw % 12 + j) k).procs[k] := by simp [List.getD_eq_getElem?_getD, List.getElem?_eq_getElem hkD]
    by_cases h20 : (L'.procs[k]).2.phase = 20
    · have := rStep_done hs.rep (hs.rep.procAt hkL) h20 (draw % 12 + j + k)
      rw [hs.tb] at this
      refine this.mono ?_
      rintro e w' ⟨rfl, hb⟩
      refine ⟨⟨0, 5, rfl⟩, ⟨L', hs.tb, ?_, hs.rel, hs.rep.below hb⟩, ChgT.of_below hb⟩
      unfold lroundTo
      rw [eg, if_pos (by rw [← eph]; exact h20)]
      exact hs.same
    · obtain ⟨ph, _, hp2, ⟨P'', hP''⟩⟩ := hP'.next (B := B) hkL h20 (draw % 12 + j + k)
      have := hp2 wr hs.rep hBr
      rw [hs.tb] at this
      refine this.mono ?_
      rintro e w' ⟨rfl, ⟨L'', ⟨a, b⟩, y⟩, z⟩
      refine ⟨⟨ph, 0, rfl⟩, ⟨L'', a, ?_, ⟨P'', hP''.same b⟩, y⟩, z⟩
      unfold lroundTo
      rw [eg, if_neg (by rw [← eph]; exact h20)]
      exact (lstep_same hs.same k _).trans b
  have HLV : Hid (∀ (L' : Lay) (wr : World), RSt wr B c L.tb (lrest L (draw % 12) r) L' → Calls Tryz.prog 63 #[.pointer (some ⟨L.tb, 0, none⟩)] wr fun e w' => e = .returned (I (liveL (lrest L (draw % 12) r).procs)) ∧ w' = wr) := by
    intro L' wr hs
    have := live_c hs.rep
    rw [hs.tb, live_same hs.same.procs] at this
    exact this
  have HRL : Hid (∀ j, (lrest L (draw % 12) j).procs.length = L.procs.length) := lrest_len L (draw % 12)
  have HRS : Hid (∀ j, lroundTo (lrest L (draw % 12) j) (draw % 12 + j) L.procs.length = lrest L (draw % 12) (j + 1)) := fun j => rfl
  have H0 : Hid (RSt w B c L.tb (lrest L (draw % 12) 0) L) := ⟨rfl, Same.refl _, ⟨P, hr⟩, h⟩
  replace hm' : Hid _ := hm'
  clear hr h
  generalize draw % 12 = m at *
  have hrn : decide ((r : Int) < 0) = false := by simp
  have hr1 : decide ((100 : Int) < (r : Int)) = false := by simp; omega
  generalize hn : L.procs.length = np at *
  go_enter Tryz.func37, Tryz.ntmps37
  go_wp2_with fail
  refine Calls.mono (hm'.out _) ?_
  rintro e w1 ⟨rfl, rfl⟩
  clear hm'
  go_wp2_with fail
  go_loopw [9, 10] (fun i _ wr => ∃ (k : Nat) (L' : Lay), k ≤ r ∧ i = .int .i64 k ∧ RSt wr B c L.tb (lrest L m k) L' ∧ ChgT B [91, 69, 109] w1 wr) (fun i _ _ => r - (intOf i).toNat)
  case atStart => exact ⟨0, L, by omega, rfl, H0.out, ChgT.refl _ _ _⟩
  case round =>
    obtain ⟨j, L', hj, rfl, hs, hch⟩ := hrel
    have hBr : B ≤ wr.heap.size := Nat.le_trans hB hch.size
    by_cases hlt : j < r
    · have HD := HRL.out j
      have HT := HRS.out j
      have H1 : Hid (RSt wr B c L.tb (lroundTo (lrest L m j) (m + j) 0) L') := hs
      replace HD : Hid _ := HD
      replace HT : Hid _ := HT
      clear hs
      generalize lrest L m j = D at *
      go_wp2_with fail
      go_loopw [10] (fun i wr2 => ∃ (k : Nat) (L'' : Lay), k ≤ np ∧ i = .int .i64 k ∧ RSt wr2 B c L.tb (lroundTo D (m + j) k) L'' ∧ ChgT B [91, 69, 109] w1 wr2) (fun i _ => np - (intOf i).toNat)
      case atStart => exact ⟨0, L', by omega, rfl, H1.out, hch⟩
      case round =>
        obtain ⟨k, L'', hk, rfl, hs2, hch2⟩ := hrel
        have hBr2 : B ≤ wr.heap.size := Nat.le_trans hB hch2.size
        by_cases hlt2 : k < np
        · obtain ⟨ao, cap, p1⟩ := HLEN.out _ L'' _ hs2 (by rw [lroundTo_len]; exact HD.out)
          have hcall := HST.out D L'' _ j k hs2 HD.out hlt2 hBr2
          replace hcall : Hid _ := hcall
          replace hch2 : Hid _ := hch2
          clear hs2 H1 hch
          go_wp2_with fail
          refine Calls.mono hcall.out ?_
          rintro e w' ⟨⟨a, b, rfl⟩, ⟨L3, t1⟩, t4⟩
          have hch3 := hch2.out.trans t4
          replace t1 : Hid _ := t1
          replace hch3 : Hid _ := hch3
          clear hcall hch2 t4 p1
          go_wp2
          go_roundw
          case rel => exact ⟨k + 1, L3, by omega, by go_num, t1.out, hch3.out⟩
          case measure => simp [intOf]; omega
        · have ek : k = np := by omega
          obtain ⟨ao, cap, p1⟩ := HLEN.out _ L'' _ hs2 (by rw [lroundTo_len]; exact HD.out)
          subst ek
          rw [HT.out] at hs2
          replace hs2 : Hid _ := hs2
          replace hch2 : Hid _ := hch2
          clear H1 hch
          go_wp2_with fail
          go_roundw
          case rel => exact ⟨j + 1, L'', by omega, by go_num, hs2.out, hch2.out⟩
          case measure => simp [intOf]; omega
    · have ek : j = r := by omega
      subst ek
      have hcall := HLV.out L' wr hs
      replace hcall : Hid _ := hcall
      replace hch : Hid _ := hch
      replace hs : Hid _ := hs
      obtain ⟨lv, hlv⟩ : ∃ lv, lv = liveL (lrest L m j).procs := ⟨_, rfl⟩
      rw [← hlv] at hcall
      have HLV2 : Hid (lv = liveL (lrest L m j).procs) := hlv
      clear hlv
      go_wp2_with fail
      refine Calls.mono hcall.out ?_
      rintro e w' ⟨rfl, rfl⟩
      go_wp2
      go_ret2
      refine ⟨?_, ⟨L', hs.out.tb, hs.out.same, hs.out.rep⟩, hch.out⟩
      rw [← HLV2.out]
      rfl

end Go.Proofs.YtjnmpejcegmkhaaGreatDoor

namespace Go.Proofs.YtjnmpejcegmkhaaGreatDoor

/-- A command: its letter and its numbers. -/
structure Cm where
  ch : UInt8
  a : Int
  b : Int

def isDg (b : UInt8) : Bool := decide (48 ≤ b) && decide (b ≤ 57)
/-- The digits that a number takes of what comes next: six at most. -/
def dgOf (l : List UInt8) : List UInt8 := (l.take 6).takeWhile isDg
def valOf (l : List UInt8) : Int := l.foldl (fun n b => 10 * n + ((b.toNat : Int) - 48)) 0
def rdNum (l : List UInt8) : Option (Int × List UInt8) := if dgOf l = [] then none else some (valOf (dgOf l), l.drop (dgOf l).length)
def rdOne (c : UInt8) (l : List UInt8) : Option (Cm × List UInt8) := (rdNum l).map fun x => (⟨c, x.1, 0⟩, x.2)
def rdTwo (c : UInt8) (l : List UInt8) : Option (Cm × List UInt8) :=
  (rdNum l).bind fun x => if x.2.head? = some 44 then (rdNum x.2.tail).map fun y => (⟨c, x.1, y.1⟩, y.2) else none
def rdPut (l : List UInt8) : Option (Cm × List UInt8) :=
  if l.head? = some 45 then (rdNum l.tail).map fun x => (⟨112, -x.1, 0⟩, x.2) else rdOne 112 l
/-- A command is read. -/
def rdCm (l : List UInt8) : Option (Cm × List UInt8) :=
  match l with
  | [] => none
  | c :: r =>
    if c = 105 ∨ c = 103 ∨ c = 108 then some (⟨c, 0, 0⟩, r)
    else if c = 112 then rdPut r
    else if c = 102 ∨ c = 117 ∨ c = 113 then rdOne c r
    else if c = 115 ∨ c = 114 then rdTwo c r
    else none
/-- Commands and what parts them; f: more than their number. -/
def rdAll : Nat → List UInt8 → Option (List Cm)
  | 0, _ => none
  | f + 1, l => (rdCm l).bind fun x => if x.2 = [] then some [x.1] else if x.2.head? = some 59 then (rdAll f x.2.tail).map fun r => x.1 :: r else none
/-- A text is read. -/
def rdText (l : List UInt8) : Option (List Cm) := if 600 < l.length then none else if l = [] then some [] else rdAll l.length l

theorem takeWhile_all {l r : List UInt8} (h : ∀ b ∈ l, isDg b = true) (hr : ∀ b, r.head? = some b → isDg b = false) : (l ++ r).takeWhile isDg = l := by
  induction l with
  | nil =>
    cases r with
    | nil => rfl
    | cons b r => simp [hr b rfl]
  | cons b l ih =>
    rw [List.cons_append, List.takeWhile_cons, h b (by simp), if_pos rfl, ih fun x hx => h x (by simp [hx])]

/-- What may stand behind a command: nothing, or what parts it from the next. -/
def EndOk (r : List UInt8) : Prop := r = [] ∨ r.head? = some 59
theorem EndOk.nd {r : List UInt8} (h : EndOk r) (b : UInt8) (hb : r.head? = some b) : isDg b = false := by
  rcases h with rfl | h
  · simp at hb
  · rw [h] at hb
    simp at hb
    rw [← hb]
    decide

end Go.Proofs.YtjnmpejcegmkhaaGreatDoor

namespace Go.Proofs.YtjnmpejcegmkhaaGreatDoor
open Go.RowKit

def InB (x : Int) : Prop := -1000000000 ≤ x ∧ x ≤ 1000000000

/- The texts of the answers. -/
def numT (n e : Int) : List UInt8 := if e = 0 then Lib.itoa n else 33 :: Lib.itoa e
def procT (p : Int × Int × Int) (e : Int) : List UInt8 := if e = 0 then Lib.itoa p.1 ++ 44 :: (Lib.itoa p.2.1 ++ 44 :: Lib.itoa p.2.2) else 33 :: Lib.itoa e
/-- The items, each behind a comma. -/
def itemsT : List Int → List UInt8
  | [] => []
  | x :: r => 44 :: (Lib.itoa x ++ itemsT r)
theorem itemsT_app (a b : List Int) : itemsT (a ++ b) = itemsT a ++ itemsT b := by
  induction a with
  | nil => rfl
  | cons x a ih => simp [itemsT, ih]
def headT (d : ND) : List UInt8 := Lib.itoa d.num ++ 58 :: (Lib.itoa d.puts ++ 44 :: Lib.itoa d.gets)
def leafT (d : ND) : List UInt8 := headT d ++ itemsT d.items
def lvS (t : List UInt8) (d : ND) : List UInt8 := if d.inner = true then t else (if t = [] then [] else t ++ [124]) ++ leafT d
def leavesT (l : List ND) : List UInt8 := l.foldl lvS []

/- How long they are. -/
theorem dec_len2 : ∀ (k n : Nat), n < 10 ^ (k + 1) → (Lib.decDigits n).length ≤ k + 1
  | 0, n, h => by rw [Lib.decDigits, dif_pos (by omega)]; simp
  | k + 1, n, h => by
    rw [Lib.decDigits]
    split
    · simp
    · have := dec_len2 k (n / 10) (by rw [Nat.pow_succ] at h; omega)
      simp only [List.length_append, List.length_cons, List.length_nil]
      omega
theorem itoa_len (x : Int) (h0 : -9223372036854775808 ≤ x) (h1 : x ≤ 9223372036854775807) : (Lib.itoa x).length ≤ 20 := by
  by_cases h : x < 0
  · obtain ⟨n, hn⟩ := Int.eq_ofNat_of_zero_le (show 0 ≤ -x by omega)
    have e : x = -(n : Int) := by omega
    subst e
    rw [Lib.itoa_neg n (by omega)]
    have := dec_len2 18 n (by omega)
    simp
    omega
  · obtain ⟨n, rfl⟩ := Int.eq_ofNat_of_zero_le (show 0 ≤ x by omega)
    rw [Lib.itoa_nonneg]
    have := dec_len2 18 n (by omega)
    omega
theorem InB.len {x : Int} (h : InB x) : (Lib.itoa x).length ≤ 20 := by
  obtain ⟨h0, h1⟩ := h
  exact itoa_len x (by omega) (by omega)
theorem itemsT_len : ∀ {l : List Int}, (∀ x ∈ l, InB x) → (itemsT l).length ≤ 21 * l.length
  | [], _ => by simp [itemsT]
  | x :: r, h => by
    have h1 := (h x (by simp)).len
    have h2 := itemsT_len (l := r) fun y hy => h y (by simp [hy])
    simp only [itemsT, List.length_cons, List.length_append]
    omega
/-- A node's numbers are small. -/
structure NdB (d : ND) : Prop where
  num : InB d.num
  puts : InB d.puts
  gets : InB d.gets
  items : ∀ x ∈ d.items, InB x
  many : d.items.length ≤ 10000
theorem NdB.head {d : ND} (h : NdB d) : (headT d).length ≤ 62 := by
  have h1 := h.num.len
  have h2 := h.puts.len
  have h3 := h.gets.len
  simp only [headT, List.length_append, List.length_cons]
  omega
theorem NdB.leaf {d : ND} (h : NdB d) : (leafT d).length ≤ 300000 := by
  have h1 := h.head
  have h2 := itemsT_len h.items
  have h3 := h.many
  simp only [leafT, List.length_append]
  omega
theorem lvS_len {d : ND} (h : NdB d) (t : List UInt8) : (lvS t d).length ≤ t.length + 300001 := by
  have h1 := h.leaf
  unfold lvS
  split
  · omega
  · split <;> simp <;> omega
theorem leaves_len : ∀ {l : List ND} (t : List UInt8), (∀ d ∈ l, NdB d) → (l.foldl lvS t).length ≤ t.length + 300001 * l.length
  | [], t, _ => by simp
  | d :: l, t, h => by
    have h1 := lvS_len (h d (by simp)) t
    have h2 := leaves_len (lvS t d) (l := l) fun y hy => h y (by simp [hy])
    rw [List.foldl_cons, List.length_cons]
    omega

end Go.Proofs.YtjnmpejcegmkhaaGreatDoor

namespace Go.Proofs.YtjnmpejcegmkhaaGreatDoor
open Go.RowKit

def PB (p : Pr) : Prop := InB p.oval ∧ InB p.val
def HB (l : Hist) : Prop := ∀ e ∈ l, InB e.1.v ∧ ∀ x ∈ e.1.items, InB x
/-- All values of a tree are small. -/
structure VB (L : Lay) : Prop where
  pr : ∀ x ∈ L.procs, PB x.2
  ev : ∀ y ∈ L.past, HB y.2

theorem VB.hist {L : Lay} (h : VB L) (v : Nat) : HB (L.hist v) := by
  unfold Lay.hist
  rw [List.getD_eq_getElem?_getD]
  cases hv : L.past[v]? with
  | none => intro e he; simp at he
  | some y => exact h.ev y (List.mem_of_getElem? hv)
theorem from_in : ∀ {l : Hist}, HB l → ∀ x ∈ (fromH l).1.items, InB x
  | [], _ => by simp [fromH]
  | e :: r, h => by
    intro x hx
    unfold fromH at hx
    split at hx
    · exact (h e (by simp)).2 x hx
    · exact from_in (fun y hy => h y (by simp [hy])) x hx
theorem laid_in {t x : Int} : ∀ {l : Hist}, HB l → laidH t l = some x → InB x
  | [], _, hx => by simp [laidH] at hx
  | e :: r, h, hx => by
    unfold laidH at hx
    split at hx
    · split at hx
      · simp at hx
        rw [← hx]
        exact (h e (by simp)).1
      · exact laid_in (fun y hy => h y (by simp [hy])) hx
    · simp at hx
theorem item_in {l : Hist} (h : HB l) {t x : Int} (hx : itemH l t = some x) : InB x := by
  unfold itemH at hx
  split at hx
  · simp at hx
  · split at hx
    · rename_i h1 h2
      simp at hx
      refine from_in h x ?_
      rw [← hx]
      have : t.toNat < (fromH l).1.items.length := by omega
      rw [List.getElem?_eq_getElem this]
      exact List.getElem_mem _
    · exact laid_in h hx
theorem items_in {l : Hist} (h : HB l) : ∀ x ∈ itemsH l, InB x := by
  intro x hx
  unfold itemsH itemsTo at hx
  obtain ⟨k, _, hk⟩ := List.mem_filterMap.1 hx
  exact item_in h hk
theorem altF_in : ∀ (f : Nat) (a b : List Int), (∀ x ∈ a, InB x) → (∀ x ∈ b, InB x) → ∀ x ∈ altF f a b, InB x
  | 0, _, _, _, _, x, hx => by simp [altF] at hx
  | _ + 1, [], _, _, _, x, hx => by simp [altF] at hx
  | f + 1, y :: a, b, ha, hb, x, hx => by
    simp only [altF, List.mem_cons] at hx
    rcases hx with rfl | hx
    · exact ha x (by simp)
    · exact altF_in f b a hb (fun z hz => ha z (by simp [hz])) x hx
theorem evod_in {l : List Int} (h : ∀ x ∈ l, InB x) (k : Nat) : (∀ x ∈ evT l k, InB x) ∧ ∀ x ∈ odT l k, InB x := by
  constructor
  · intro x hx
    obtain ⟨i, _, hi⟩ := List.mem_filterMap.1 hx
    split at hi
    · exact h x (List.mem_of_getElem? hi)
    · simp at hi
  · intro x hx
    obtain ⟨i, _, hi⟩ := List.mem_filterMap.1 hx
    split at hi
    · simp at hi
    · exact h x (List.mem_of_getElem? hi)
theorem VB.hap {L : Lay} (h : VB L) (v : Nat) (x : Value) (ev : Ev) (iv : Value) (h1 : InB ev.v) (h2 : ∀ x ∈ ev.items, InB x) : VB (L.hap v x ev iv) := by
  refine ⟨h.pr, fun y hy => ?_⟩
  rcases List.mem_or_eq_of_mem_set hy with hy | rfl
  · exact h.ev y hy
  · intro e he
    simp only [List.mem_cons] at he
    rcases he with rfl | he
    · exact ⟨h1, h2⟩
    · exact h.hist v e he
theorem VB.setP {L : Lay} (h : VB L) (i : Nat) (p : Pr) (hp : PB p) : VB (L.setP i p) := by
  refine ⟨fun y hy => ?_, h.ev⟩
  rcases List.mem_or_eq_of_mem_set hy with hy | rfl
  · exact h.pr y hy
  · exact hp
theorem vb_ite {p : Prop} [Decidable p] {a b : Lay} (h1 : p → VB a) (h2 : ¬ p → VB b) : VB (if p then a else b) := by
  by_cases hp : p
  · rw [if_pos hp]; exact h1 hp
  · rw [if_neg hp]; exact h2 hp
theorem pb_ite {p : Prop} [Decidable p] {a b : Pr} (h1 : p → PB a) (h2 : ¬ p → PB b) : PB (if p then a else b) := by
  by_cases hp : p
  · rw [if_pos hp]; exact h1 hp
  · rw [if_neg hp]; exact h2 hp
theorem pb_settled {p q : Pr} (b : Int) (hp : PB p) (hq : PB q) : PB (settledPr p q b) := by
  unfold settledPr
  exact pb_ite (fun _ => hp) fun _ => pb_ite (fun _ => ⟨hp.1, hq.1⟩) fun _ => hp
theorem pb_at {L : Lay} (h : VB L) {k : Nat} {y : Nat × Pr} (hy : L.procs[k]? = some y) : PB y.2 := h.pr y (List.mem_of_getElem? hy)
theorem pb_move {L : Lay} (h : VB L) (v : Nat) {q : Pr} (hq : PB q) (draw : Int) : PB (lmove L v q draw) := by
  have two : ∀ x : Int, x = 1 ∨ x = 2 ∨ x = 3 ∨ x = 4 → InB x := fun x hx => ⟨by omega, by omega⟩
  unfold lmove
  refine pb_ite (fun _ => hq) fun _ => pb_ite (fun _ => pb_ite (fun _ => hq) fun _ => pb_ite (fun _ => hq) fun _ => pb_ite (fun _ => hq) fun _ => ⟨hq.1, two 2 (by omega)⟩) fun _ => pb_ite (fun _ => hq) fun _ => pb_ite (fun _ => hq) fun _ => pb_ite (fun _ => pb_ite (fun _ => hq) fun _ => ?_) fun _ => pb_ite (fun _ => pb_ite (fun _ => hq) fun _ => hq) fun _ => pb_ite (fun _ => ?_) fun _ => pb_ite (fun _ => ?_) fun _ => pb_ite (fun _ => ?_) fun _ => pb_ite (fun _ => ?_) fun _ => pb_ite (fun _ => ⟨hq.1, two 3 (by omega)⟩) fun _ => pb_ite (fun _ => hq) fun _ => hq
  · split
    · exact pb_ite (fun _ => hq) fun _ => hq
    · exact hq
  · unfold waitPr
    exact pb_ite (fun _ => hq) fun _ => pb_ite (fun _ => hq) fun _ => hq
  · split
    · rename_i y hy
      exact pb_settled 0 hq (pb_at h hy)
    · exact hq
  · unfold shutCh
    exact pb_ite (fun _ => ⟨hq.1, two 2 (by omega)⟩) fun _ => hq
  · unfold drainCh
    exact pb_ite (fun _ => hq) fun _ => pb_ite (fun _ => hq) fun _ => hq

theorem WRel.puts64 {c : Conf} {L : Lay} {P : PLay} (h : WRel c L P) (v : Nat) : 0 ≤ putsH (L.hist v) ∧ putsH (L.hist v) ≤ 10000 ∧ (manyH 7 (-1) (L.hist v) : Int) ≤ 10000 ∧ (itemsH (L.hist v)).length ≤ 10000 := by
  have key : 0 ≤ putsH (L.hist v) ∧ putsH (L.hist v) ≤ 10000 ∧ (manyH 7 (-1) (L.hist v) : Int) ≤ 10000 := by
    by_cases hv : v < L.past.length
    · have a1 := h.fn v hv
      have a2 := h.hlen v hv
      have a3 := manyH_le 6 (-1) (L.hist v)
      have a4 := manyH_le 7 (-1) (L.hist v)
      unfold putsH
      omega
    · have : L.hist v = [] := by unfold Lay.hist; rw [List.getD_eq_getElem?_getD, List.getElem?_eq_none (by omega)]; rfl
      rw [this]
      simp [putsH, fromH, manyH]
  have := itemsTo_le (L.hist v) (putsH (L.hist v)).toNat
  refine ⟨key.1, key.2.1, key.2.2, ?_⟩
  unfold itemsH
  omega
theorem num_in {v : Nat} (hv : v < 64) {x : Int} (h0 : 0 ≤ x) (h1 : x ≤ 10000) : InB ((rank v : Int) + x * 2 ^ Nat.log2 v) := by
  have hr : rank v ≤ v := rankTo_le 6 v
  have hl : 2 ^ Nat.log2 v ≤ 64 := by
    by_cases h : v = 0
    · subst h; decide
    · exact Nat.le_of_lt (Nat.lt_of_le_of_lt (Nat.log2_self_le h) hv)
  have e : ((2 : Int) ^ Nat.log2 v) = ((2 ^ Nat.log2 v : Nat) : Int) := by simp
  obtain ⟨n, rfl⟩ := Int.eq_ofNat_of_zero_le h0
  rw [e]
  have : n * 2 ^ Nat.log2 v ≤ 10000 * 64 := Nat.mul_le_mul (by omega) hl
  have e2 : ((n : Int) * ((2 ^ Nat.log2 v : Nat) : Int)) = ((n * 2 ^ Nat.log2 v : Nat) : Int) := by simp
  unfold InB
  rw [e2]
  omega
theorem vb_step {c : Conf} {L : Lay} {P : PLay} (h : VB L) (hr : CRel c L P) (i : Nat) (draw : Int) : VB (lstep L i draw) := by
  have i0 : InB 0 := ⟨by omega, by omega⟩
  have i1 : InB 1 := ⟨by omega, by omega⟩
  have i4 : InB 4 := ⟨by omega, by omega⟩
  have nil : ∀ x ∈ ([] : List Int), InB x := fun x hx => by simp at hx
  unfold lstep
  cases hx : L.procs[i]? with
  | none => exact h
  | some x =>
    have hi : i < L.procs.length := (List.getElem?_eq_some_iff.1 hx).1
    have hxe : L.procs[i] = x := (List.getElem?_eq_some_iff.1 hx).2
    have hq : PB (incPr x.2) := pb_at h hx
    have hn : (incPr x.2).node.toNat < 64 := by have := (hr.rel.node64 i hi).2; rw [hxe] at this; exact this
    have hp := hr.rel.puts64 (incPr x.2).node.toNat
    have hM : VB (L.setP i (incPr x.2)) := h.setP i _ hq
    have hitems : ∀ u, ∀ y ∈ itemsH ((L.setP i (incPr x.2)).hist u), InB y := fun u => items_in (h.hist u)
    simp only
    refine vb_ite (fun _ => ?_) fun _ => vb_ite (fun _ => (hM.hap _ _ _ _ i0 nil).setP _ _ hq) fun _ => vb_ite (fun _ => (hM.hap _ _ _ _ i0 nil).setP _ _ hq) fun _ => vb_ite (fun _ => (hM.hap _ _ _ _ i0 nil).setP _ _ hq) fun _ => vb_ite (fun _ => vb_ite (fun _ => (hM.hap _ _ _ _ i0 nil).setP _ _ ⟨hq.1, num_in hn hp.1 hp.2.1⟩) fun _ => vb_ite (fun _ => (hM.hap _ _ _ _ i0 nil).setP _ _ hq) fun _ => (hM.hap _ _ _ _ i0 nil).setP _ _ hq) fun _ => vb_ite (fun _ => vb_ite (fun _ => (hM.hap _ _ _ _ hq.1 nil).setP _ _ hq) fun _ => hM) fun _ => vb_ite (fun _ => ?_) fun _ => vb_ite (fun _ => vb_ite (fun _ => ?_) fun _ => vb_ite (fun _ => hM.setP _ _ ⟨hq.1, i4⟩) fun _ => ?_) fun _ => hM.setP _ _ (pb_move hM _ hq draw)
    · cases hy : L.procs[(incPr x.2).mind.toNat]? with
      | none => exact hM
      | some y => exact vb_ite (fun _ => (hM.setP _ { y.2 with met := (i : Int) } ⟨(pb_at h hy).1, (pb_at h hy).2⟩).setP _ _ (pb_settled 1 hq (pb_at h hy))) fun _ => hM.setP _ _ hq
    · cases hy : itemH (L.hist (incPr x.2).node.toNat) (incPr x.2).ticket with
      | none => exact hM
      | some y => exact (hM.hap _ _ _ _ i0 nil).setP _ _ ⟨hq.1, item_in (h.hist _) hy⟩
    · exact (((hM.hap _ _ _ _ i0 nil).hap _ _ _ _ i0 (evod_in (hitems _) _).1).hap _ _ _ _ i0 (evod_in (hitems _) _).2).setP _ _ ⟨hq.1, i1⟩
    · exact (((hM.hap _ _ _ _ i0 nil).hap _ _ _ _ i0 nil).hap _ _ _ _ i0 (altF_in _ _ _ (hitems _) (hitems _))).setP _ _ ⟨hq.1, i1⟩

/- What the calls answer. -/
def phaseOf (L : Lay) (i : Nat) : Int := (L.procs.getD i (0, newPr ⟨0, 0, 0⟩)).2.phase
theorem phaseOf_eq (L : Lay) (i : Nat) (hi : i < L.procs.length) : phaseOf L i = (L.procs[i]).2.phase := by
  unfold phaseOf
  rw [List.getD_eq_getElem?_getD, List.getElem?_eq_getElem hi]
  rfl
def okDec (c : Conf) (o : Op3) : Decidable (okOp c o) := by unfold okOp; exact inferInstance
/-- A Spawn: its number, its error, the tree behind it. -/
def spN (c : Conf) (L : Lay) (o : Op3) : Int × Int × Lay :=
  letI := okDec c o; if ¬ okOp c o then (0, 2, L) else if 256 ≤ L.procs.length then (0, 3, L) else if c.procs ≤ (liveL L.procs : Int) then (0, 4, L) else ((L.procs.length : Int), 0, { L with procs := L.procs ++ [(0, newPr o)] })
def stN (L : Lay) (p d : Int) : Int × Int × Lay :=
  if 0 ≤ p ∧ p < L.procs.length ∧ phaseOf L p.toNat ≠ 20 then (phaseOf (lstep L p.toNat d) p.toNat, 0, lstep L p.toNat d) else (0, 5, L)
def rsN (L : Lay) (r d : Int) : Int × Int × Lay :=
  if 0 ≤ r ∧ r ≤ 100 then ((liveL (lrest L (d % 12) r.toNat).procs : Int), 0, lrest L (d % 12) r.toNat) else (0, 6, L)
def prN (L : Lay) (n : Int) : (Int × Int × Int) × Int :=
  if 0 ≤ n ∧ n < L.procs.length then (((L.procs.getD n.toNat (0, newPr ⟨0, 0, 0⟩)).2.phase, (L.procs.getD n.toNat (0, newPr ⟨0, 0, 0⟩)).2.node, (L.procs.getD n.toNat (0, newPr ⟨0, 0, 0⟩)).2.val), 0) else ((0, 0, 0), 5)
theorem procV_prN (L : Lay) (n : Int) : procV L n = .tuple #[.agg #[I (prN L n).1.1, I (prN L n).1.2.1, I (prN L n).1.2.2], I (prN L n).2] := by
  unfold procV prN
  by_cases h : 0 ≤ n ∧ n < L.procs.length
  · rw [if_pos h, if_pos h]
    have hi : n.toNat < L.procs.length := by omega
    simp only [List.getD_eq_getElem?_getD, List.getElem?_eq_getElem hi, Option.getD_some]
  · rw [if_neg h, if_neg h]

def opOf (cm : Cm) : Op3 := if cm.ch = 105 then ⟨0, 0, 0⟩ else if cm.ch = 103 then ⟨2, 0, 0⟩ else if cm.ch = 112 then ⟨1, cm.a, 0⟩ else if cm.ch = 102 then ⟨3, 0, cm.a⟩ else ⟨4, 0, cm.a⟩
/-- A command's answer, and the tree behind it. -/
def ansOf (c : Conf) (L : Lay) (cm : Cm) : List UInt8 × Lay :=
  if cm.ch = 115 then (numT (stN L cm.a cm.b).1 (stN L cm.a cm.b).2.1, (stN L cm.a cm.b).2.2)
  else if cm.ch = 114 then (numT (rsN L cm.a cm.b).1 (rsN L cm.a cm.b).2.1, (rsN L cm.a cm.b).2.2)
  else if cm.ch = 113 then (procT (prN L cm.a).1 (prN L cm.a).2, L)
  else if cm.ch = 108 then (leavesT (rnodes L), L)
  else (numT (spN c L (opOf cm)).1 (spN c L (opOf cm)).2.1, (spN c L (opOf cm)).2.2)
/-- One command more: how many there were, the answers, the tree. -/
def plS (c : Conf) (x : Nat × List UInt8 × Lay) (cm : Cm) : Nat × List UInt8 × Lay :=
  (x.1 + 1, (if x.1 = 0 then x.2.1 else x.2.1 ++ [59]) ++ (ansOf c x.2.2 cm).1, (ansOf c x.2.2 cm).2)
def plA (c : Conf) (L : Lay) (cs : List Cm) : Nat × List UInt8 × Lay := cs.foldl (plS c) (0, [], L)
theorem plA_snoc (c : Conf) (L : Lay) (cs : List Cm) (cm : Cm) : plA c L (cs ++ [cm]) = plS c (plA c L cs) cm := by
  unfold plA
  rw [List.foldl_append]
  rfl
theorem plA_len (c : Conf) (L : Lay) (cs : List Cm) : (plA c L cs).1 = cs.length := by
  have key : ∀ (l : List Cm) (x : Nat × List UInt8 × Lay), (l.foldl (plS c) x).1 = x.1 + l.length := by
    intro l
    induction l with
    | nil => intro x; rfl
    | cons a l ih => intro x; rw [List.foldl_cons, ih]; simp [plS]; omega
  have := key cs (0, [], L)
  simpa [plA] using this

theorem rnodes_ndb {c : Conf} {L : Lay} {P : PLay} (h : VB L) (hr : CRel c L P) : (∀ d ∈ rnodes L, NdB d) ∧ (rnodes L).length ≤ 32 := by
  have hl := hr.rel.lenle
  constructor
  · intro d hd
    unfold rnodes rnodesTo at hd
    obtain ⟨v, hv, hk⟩ := List.mem_filterMap.1 hd
    have hv32 : v < 32 := by simp at hv; omega
    have hp := hr.rel.puts64 v
    split at hk
    · simp at hk
    · simp only [Option.some.injEq] at hk
      rw [← hk]
      unfold rnode
      split
      · exact ⟨⟨by dsimp only; omega, by dsimp only; omega⟩, ⟨by simp, by simp⟩, ⟨by simp, by simp⟩, by simp, by simp⟩
      · exact ⟨⟨by dsimp only; omega, by dsimp only; omega⟩, ⟨by dsimp only; omega, by dsimp only; omega⟩, ⟨by dsimp only; omega, by dsimp only; omega⟩, items_in (h.hist v), hp.2.2.2⟩
  · have := rnodesTo_le L L.past.length
    unfold rnodes
    omega

theorem VB.push {L : Lay} (h : VB L) (o : Op3) (ho : InB o.val) : VB { L with procs := L.procs ++ [(0, newPr o)] } := by
  refine ⟨fun x hx => ?_, h.ev⟩
  rcases List.mem_append.1 hx with hx | hx
  · exact h.pr x hx
  · simp at hx
    rw [hx]
    exact ⟨ho, (⟨by decide, by decide⟩ : InB 0)⟩
theorem vb_round {c : Conf} {L : Lay} {P : PLay} (h : VB L) (hr : CRel c L P) (d : Int) : ∀ k, k ≤ L.procs.length → VB (lroundTo L d k) ∧ ∃ P', CRel c (lroundTo L d k) P'
  | 0, _ => ⟨h, P, hr⟩
  | k + 1, hk => by
    obtain ⟨h1, P1, h2⟩ := vb_round h hr d k (by omega)
    have hlen := lroundTo_len L d k
    unfold lroundTo
    by_cases h20 : ((lroundTo L d k).procs.getD k (0, newPr ⟨0, 0, 0⟩)).2.phase = 20
    · rw [if_pos h20]; exact ⟨h1, P1, h2⟩
    · rw [if_neg h20]
      have hi : k < (lroundTo L d k).procs.length := by omega
      rw [List.getD_eq_getElem?_getD, List.getElem?_eq_getElem hi] at h20
      obtain ⟨_, _, _, P2, h3⟩ := h2.next (B := 0) hi h20 (d + k)
      exact ⟨vb_step h1 h2 k _, P2, h3⟩
theorem vb_rest {c : Conf} {L : Lay} {P : PLay} (h : VB L) (hr : CRel c L P) (m : Int) : ∀ r, VB (lrest L m r) ∧ ∃ P', CRel c (lrest L m r) P'
  | 0 => ⟨h, P, hr⟩
  | r + 1 => by
    obtain ⟨h1, P1, h2⟩ := vb_rest h hr m r
    unfold lrest
    exact vb_round h1 h2 _ _ (by rw [lrest_len]; exact Nat.le_refl _)

end Go.Proofs.YtjnmpejcegmkhaaGreatDoor

namespace Go.Proofs.YtjnmpejcegmkhaaGreatDoor
open Go.RowKit

/-- The library's table lies where it lay. -/
abbrev Tab (w : World) : Prop := Lib.TabIs Tryz.prog w "internal/strconv.uint64pow10" .u64 Lib.pow10Tab
theorem Tab.below {w w' : World} (h : Tab w) (hb : Below w.heap.size w w') : Tab w' := Lib.tabBelow_of_tabIs h w' hb
/-- Bytes as a text. -/
abbrev S (l : List UInt8) : Value := .string ⟨l.toArray⟩
theorem itoa_c (n : Int) (h0 : -9223372036854775808 ≤ n) (h1 : n ≤ 9223372036854775807) {w : World} (h : Tab w) :
    Calls Tryz.prog 34 #[.int .i64 n] w fun e w' => e = .returned (S (Lib.itoa n)) ∧ Below w.heap.size w w' := by
  refine (Tryz.strconv_Itoa n h0 h1 w h).mono ?_
  rintro e w' ⟨rfl, k, os, rfl⟩
  exact ⟨rfl, Lib.below_grow _ _ (Nat.le_refl _) _ _⟩

end Go.Proofs.YtjnmpejcegmkhaaGreatDoor

namespace Go.Proofs.YtjnmpejcegmkhaaGreatDoor
open Go.RowKit

/-- The library's table lies below B, as it lay. -/
def TabB (B : Nat) (w : World) : Prop := ∃ w0, Tab w0 ∧ w0.heap.size ≤ B ∧ Below w0.heap.size w0 w
theorem TabB.tab {B : Nat} {w : World} (h : TabB B w) : Tab w := by
  obtain ⟨w0, h1, _, h3⟩ := h
  exact h1.below h3
theorem TabB.below {B : Nat} {w w' : World} (h : TabB B w) (hb : Below w.heap.size w w') : TabB B w' := by
  obtain ⟨w0, h1, h2, h3⟩ := h
  exact ⟨w0, h1, h2, h3.trans (hb.mono h3.size)⟩
theorem TabB.chg {B : Nat} {w w' : World} (h : TabB B w) (hb : Below B w w') : TabB B w' := by
  obtain ⟨w0, h1, h2, h3⟩ := h
  exact ⟨w0, h1, h2, h3.trans (hb.mono h2)⟩

structure TSt (w : World) (B : Nat) (c : Conf) (L : Lay) (P : PLay) : Prop where
  prog : PRep w B P
  rel : CRel c L P
  vb : VB L
  hB : B ≤ w.heap.size
  tab : TabB B w
theorem TSt.below {w w' : World} {B : Nat} {c : Conf} {L : Lay} {P : PLay} (h : TSt w B c L P) (hb : Below w.heap.size w w') : TSt w' B c L P :=
  ⟨h.prog.below hb, h.rel, h.vb, Nat.le_trans h.hB hb.size, h.tab.below hb⟩

abbrev TT : List TypeId := [61, 96, 148]
/-- The tree P.tb goes on as L'. -/
def TRet (B : Nat) (c : Conf) (P : PLay) (L' : Lay) (w w' : World) : Prop := (∃ P', P'.tb = P.tb ∧ TSt w' B c L' P') ∧ ChgT B TT w w'
theorem TRet.same {w w' : World} {B : Nat} {c : Conf} {L : Lay} {P : PLay} (h : TSt w B c L P) (hb : Below w.heap.size w w') : TRet B c P L w w' :=
  ⟨⟨P, rfl, h.below hb⟩, ChgT.of_below hb⟩
theorem TRet.then {w w' w'' : World} {B : Nat} {c : Conf} {L' : Lay} {P : PLay} (h : TRet B c P L' w w') (hb : Below w'.heap.size w' w'') : TRet B c P L' w w'' := by
  obtain ⟨⟨P', e, h1⟩, h2⟩ := h
  exact ⟨⟨P', e, h1.below hb⟩, h2.trans (ChgT.of_below hb)⟩
theorem TRet.before {w w' w'' : World} {B : Nat} {c : Conf} {L' : Lay} {P : PLay} (hb : Below w.heap.size w w') (h : TRet B c P L' w' w'') : TRet B c P L' w w'' :=
  ⟨h.1, (ChgT.of_below hb).trans h.2⟩
theorem TRet.tab {w w' : World} {B : Nat} {c : Conf} {L' : Lay} {P : PLay} (h : TRet B c P L' w w') : Tab w' := by
  obtain ⟨⟨P', e, h1⟩, h2⟩ := h
  exact h1.tab.tab

theorem tspawn_c {w : World} {B : Nat} {c : Conf} {L : Lay} {P : PLay} (h : TSt w B c L P) (o : Op3) (ho : InB o.val) :
    Calls Tryz.prog 41 #[.pointer (some ⟨P.tb, 0, none⟩), opV o] w fun e w' => e = .returned (.tuple #[I (spN c L o).1, I (spN c L o).2.1]) ∧ TRet B c P (spN c L o).2.2 w w' := by
  have d0 : 0 ≤ P.c.depth ∧ P.c.depth ≤ 4 := by
    have := h.rel.rel.confs
    rw [h.rel.rel.cP]
    omega
  have lvP : pliveL P.procs = liveL L.procs := plive_w h.rel.rel
  have hpl := h.rel.plen
  have cP := h.rel.rel.cP
  have np := h.rel.rel.np
  unfold spN
  by_cases h1 : okOp c o
  · have okP : okOp P.c o := by rw [cP]; exact h1
    rw [if_neg (by simpa using h1)]
    by_cases h2 : 256 ≤ L.procs.length
    · rw [if_pos h2]
      refine (pspawn_err3 h.prog o okP d0.1 d0.2 (by omega)).mono ?_
      rintro e w' ⟨rfl, hb⟩
      exact ⟨rfl, TRet.same h hb⟩
    · rw [if_neg h2]
      by_cases h3 : c.procs ≤ (liveL L.procs : Int)
      · rw [if_pos h3]
        refine (pspawn_err4 h.prog o okP d0.1 d0.2 (by omega) (by rw [lvP, cP]; exact h3)).mono ?_
        rintro e w' ⟨rfl, hb⟩
        exact ⟨rfl, TRet.same h hb⟩
      · rw [if_neg h3]
        refine (pspawn_yes h.prog h.hB o okP d0.1 d0.2 (by omega) (by rw [lvP, cP]; omega)).mono ?_
        rintro e w' ⟨rfl, ⟨x, hp⟩, hc⟩
        have hc' : ChgT B TT w w' := hc.mono (Nat.le_refl _) (by simp)
        refine ⟨by rw [hpl], ⟨_, ?_, hp, ?_, h.vb.push o ho, Nat.le_trans h.hB hc.size, h.tab.chg (hc.below h.hB)⟩, hc'⟩
        · rfl
        · exact h.rel.push o h1 0 L.pv x (by omega) (by omega)
  · rw [if_pos (by simpa using h1)]
    refine (pspawn_err2 h.prog o (by rw [cP]; exact h1) d0.1 d0.2).mono ?_
    rintro e w' ⟨rfl, hb⟩
    exact ⟨rfl, TRet.same h hb⟩

set_option maxHeartbeats 4000000 in
/-- Step is step, and the phase that comes of it. -/
theorem tStep_ret {B : Nat} {P : PLay} {i : Nat} (hi : i < P.procs.length) (hl : (P.procs[i]).phase ≠ 20) (draw : Int) {F : PLay → Prop} (hF : ∀ P', F P' → P'.tb = P.tb ∧ P'.procs.length = P.procs.length)
    (hs : ∀ W, PRep W B P → B ≤ W.heap.size → Calls Tryz.prog 42 #[.pointer (some ⟨P.tb, 0, none⟩), I i, I draw] W fun e w' => e = .returned (.tuple #[]) ∧ (∃ P', F P' ∧ PRep w' B P') ∧ ChgT B [61, 96, 148] W w')
    {W : World} (h : PRep W B P) (hB : B ≤ W.heap.size) :
    Calls Tryz.prog 22 #[.pointer (some ⟨P.tb, 0, none⟩), I i, I draw] W fun e w' => (∃ P', e = .returned (.tuple #[I (P'.procs.getD i zeroPP).phase, I 0]) ∧ F P' ∧ PRep w' B P') ∧ ChgT B [61, 96, 148] W w' := by
  have HF : Hid (∀ w' P', F P' → PRep w' B P' → ∃ g cap, w'.cell? ⟨g, i * 11 + 3, none⟩ = some (I (P'.procs.getD i zeroPP).phase) ∧ w'.cell? ⟨P.tb, 680, none⟩ = some (.slice (some ⟨g, 0, none⟩) P.procs.length cap) ∧ P.procs.length ≤ cap ∧ P.procs.length ≤ 2 ^ 63 - 1 ∧ cap ≤ 2 ^ 63 - 1) := by
    intro w' P' hf hp
    obtain ⟨e1, e2⟩ := hF P' hf
    obtain ⟨ao, cap, k1, k2, k3, k4, k5⟩ := hp.pp_at
    have hi' : i < P'.procs.length := by omega
    obtain ⟨g, rfl, hg⟩ := k5 i hi'
    have hp1 := hp.pcell
    rw [e1, k1, e2] at hp1
    rw [e2] at k2 k3
    have hd : P'.procs.getD i zeroPP = P'.procs[i] := by simp [List.getD_eq_getElem?_getD, List.getElem?_eq_getElem hi']
    refine ⟨g, cap, ?_, hp1, k2, k3, k4⟩
    rw [hg 3 (by omega), hd]
    rfl
  obtain ⟨ao, cap, k1, k2, k3, k4, k5⟩ := h.pp_at
  obtain ⟨g, rfl, hg⟩ := k5 i hi
  have p1 := h.pcell
  rw [k1] at p1
  have c3 : W.cell? ⟨g, i * 11 + 3, none⟩ = some (I (P.procs[i]).phase) := by rw [hg 3 (by omega)]; rfl
  have b1 : ((P.procs[i]).phase == 20) = false := by simp [hl]
  have hi0 : decide ((i : Int) < 0) = false := by simp
  have hil : (i : Int) < (P.procs.length : Int) := by omega
  unfold maxLen at k3 k4
  have hc := hs W h hB
  replace hc : Hid _ := hc
  generalize (P.procs[i]).phase = ph0 at *
  clear h hs hF k5 hg k1 hl
  generalize P.procs.length = np at *
  go_enter Tryz.func22, Tryz.ntmps22
  go_wp2_with fail
  refine Calls.mono hc.out ?_
  rintro e w1 ⟨rfl, ⟨P', hf, hp⟩, hch⟩
  obtain ⟨g', cap', e3, e680, e1, e2, e4⟩ := HF.out _ _ hf hp
  clear hc HF c3 p1
  replace hf : Hid _ := hf
  replace hp : Hid _ := hp
  replace hch : Hid _ := hch
  go_wp2
  go_ret2
  exact ⟨⟨P', rfl, hf.out, hp.out⟩, hch.out⟩

theorem tstep_c {w : World} {B : Nat} {c : Conf} {L : Lay} {P : PLay} (h : TSt w B c L P) (p draw : Int) :
    Calls Tryz.prog 22 #[.pointer (some ⟨P.tb, 0, none⟩), I p, I draw] w fun e w' => e = .returned (.tuple #[I (stN L p draw).1, I (stN L p draw).2.1]) ∧ TRet B c P (stN L p draw).2.2 w w' := by
  have hpl := h.rel.plen
  unfold stN
  by_cases hin : 0 ≤ p ∧ p < L.procs.length
  · obtain ⟨i, rfl⟩ := Int.eq_ofNat_of_zero_le hin.1
    have hi : i < L.procs.length := by omega
    have hiP : i < P.procs.length := by omega
    have hpp : P.procs[i] = toPP (L.procs[i]).2 := by simp [h.rel.rel.procs]
    by_cases h20 : (L.procs[i]).2.phase = 20
    · rw [if_neg (by rintro ⟨_, _, x⟩; rw [Int.toNat_natCast, phaseOf_eq L i hi] at x; exact x h20)]
      have hv0 : 0 < P.nodes.length := by rw [h.rel.rel.plen]; omega
      obtain ⟨g, hf⟩ := PF.start h.prog hv0 hiP
      refine (pStep_done hf (by rw [hpp]; exact h20) draw).mono ?_
      rintro e w' ⟨rfl, hb⟩
      exact ⟨rfl, TRet.same h hb⟩
    · rw [if_pos ⟨hin.1, hin.2, by rw [Int.toNat_natCast, phaseOf_eq L i hi]; exact h20⟩, Int.toNat_natCast]
      obtain ⟨ph, hps, _, _⟩ := h.rel.next (B := B) hi h20 draw
      refine (tStep_ret hiP (by rw [hpp]; exact h20) draw (F := fun P' => P'.tb = P.tb ∧ CRel c (lstep L i draw) P') (fun P' hP => ⟨hP.1, by rw [hP.2.plen, lstep_len, hpl]⟩) hps.1 h.prog h.hB).mono ?_
      rintro e w' ⟨⟨P', rfl, ⟨e1, e2⟩, hp⟩, hc⟩
      refine ⟨?_, ⟨P', e1, hp, e2, vb_step h.vb h.rel i draw, Nat.le_trans h.hB hc.size, h.tab.chg (hc.below h.hB)⟩, hc⟩
      have hi2 : i < (lstep L i draw).procs.length := by rw [lstep_len]; exact hi
      have hi3 : i < P'.procs.length := by rw [e2.plen]; exact hi2
      rw [phaseOf_eq _ i hi2, List.getD_eq_getElem?_getD, List.getElem?_eq_getElem hi3, Option.getD_some, e2.pphase i hi2 hi3]
  · rw [if_neg (fun x => hin ⟨x.1, x.2.1⟩)]
    refine (pStep_none h.prog p (by omega) draw).mono ?_
    rintro e w' ⟨rfl, hb⟩
    exact ⟨rfl, TRet.same h hb⟩

theorem trest_c {w : World} {B : Nat} {c : Conf} {L : Lay} {P : PLay} (h : TSt w B c L P) (r draw : Int) :
    Calls Tryz.prog 24 #[.pointer (some ⟨P.tb, 0, none⟩), I r, I draw] w fun e w' => e = .returned (.tuple #[I (rsN L r draw).1, I (rsN L r draw).2.1]) ∧ TRet B c P (rsN L r draw).2.2 w w' := by
  unfold rsN
  by_cases hin : 0 ≤ r ∧ r ≤ 100
  · rw [if_pos hin]
    obtain ⟨k, rfl⟩ := Int.eq_ofNat_of_zero_le hin.1
    rw [Int.toNat_natCast]
    refine (prest_ok h.rel h.prog h.hB k (by omega) draw).mono ?_
    rintro e w' ⟨rfl, ⟨P', e1, e2, hp⟩, hc⟩
    exact ⟨rfl, ⟨P', e1, hp, e2, (vb_rest h.vb h.rel _ k).1, Nat.le_trans h.hB hc.size, h.tab.chg (hc.below h.hB)⟩, hc⟩
  · rw [if_neg hin]
    refine (prest_err P.tb r draw (by omega)).mono ?_
    rintro e w' ⟨rfl, rfl⟩
    exact ⟨rfl, TRet.same h (Below.refl _ _)⟩

theorem tproc_c {w : World} {B : Nat} {c : Conf} {L : Lay} {P : PLay} (h : TSt w B c L P) (p : Int) :
    Calls Tryz.prog 25 #[.pointer (some ⟨P.tb, 0, none⟩), I p] w fun e w' => e = .returned (.tuple #[.agg #[I (prN L p).1.1, I (prN L p).1.2.1, I (prN L p).1.2.2], I (prN L p).2]) ∧ Below w.heap.size w w' := by
  rw [← procV_prN]
  exact (h.rel.rel.agree h.rel.ck.si h.prog).proc w (Below.refl _ _) p
theorem tnodes_c {w : World} {B : Nat} {c : Conf} {L : Lay} {P : PLay} (h : TSt w B c L P) :
    Calls Tryz.prog 47 #[.pointer (some ⟨P.tb, 0, none⟩)] w fun e w' => ∃ x l, e = .returned x ∧ NodesRep w' w.heap.size x l ∧ l.map (fun y => y.1) = rnodes L ∧ Below w.heap.size w w' :=
  (h.rel.rel.agree h.rel.ck.si h.prog).nodes w (Below.refl _ _)

/- The numbers that are told. -/
theorem inbN {k : Int} (h0 : 0 ≤ k) (h1 : k ≤ 1000) : InB k := ⟨by omega, by omega⟩
theorem spN_in {c : Conf} {L : Lay} {P : PLay} (h : CRel c L P) (o : Op3) : InB (spN c L o).1 ∧ InB (spN c L o).2.1 := by
  have := h.rel.np
  unfold spN
  split
  · exact ⟨inbN (k := 0) (by omega) (by omega), inbN (k := 2) (by omega) (by omega)⟩
  · split
    · exact ⟨inbN (k := 0) (by omega) (by omega), inbN (k := 3) (by omega) (by omega)⟩
    · split
      · exact ⟨inbN (k := 0) (by omega) (by omega), inbN (k := 4) (by omega) (by omega)⟩
      · exact ⟨inbN (k := (L.procs.length : Int)) (by omega) (by omega), inbN (k := 0) (by omega) (by omega)⟩
theorem phase_in {c : Conf} {L : Lay} {P : PLay} (h : CRel c L P) (i : Nat) : InB (phaseOf L i) := by
  by_cases hi : i < L.procs.length
  · rw [phaseOf_eq L i hi]
    have := (h.rel.qs i hi).phase
    exact inbN (by omega) (by omega)
  · unfold phaseOf
    rw [List.getD_eq_getElem?_getD, List.getElem?_eq_none (by omega)]
    exact inbN (k := 0) (by omega) (by omega)
theorem stN_in {c : Conf} {L : Lay} {P : PLay} (h : CRel c L P) (p d : Int) : InB (stN L p d).1 ∧ InB (stN L p d).2.1 := by
  unfold stN
  split
  · rename_i hc
    refine ⟨?_, inbN (k := 0) (by omega) (by omega)⟩
    have hi : p.toNat < L.procs.length := by omega
    have h20 := hc.2.2
    rw [phaseOf_eq L _ hi] at h20
    obtain ⟨_, _, _, P', h'⟩ := h.next (B := 0) hi h20 d
    exact phase_in h' _
  · exact ⟨inbN (k := 0) (by omega) (by omega), inbN (k := 5) (by omega) (by omega)⟩
theorem rsN_in {c : Conf} {L : Lay} {P : PLay} (h : CRel c L P) (p d : Int) : InB (rsN L p d).1 ∧ InB (rsN L p d).2.1 := by
  have np := h.rel.np
  unfold rsN
  split
  · have h1 := liveL_le (lrest L (d % 12) p.toNat).procs
    rw [lrest_len] at h1
    exact ⟨inbN (k := (liveL (lrest L (d % 12) p.toNat).procs : Int)) (by omega) (by omega), inbN (k := 0) (by omega) (by omega)⟩
  · exact ⟨inbN (k := 0) (by omega) (by omega), inbN (k := 6) (by omega) (by omega)⟩
theorem prN_in {c : Conf} {L : Lay} {P : PLay} (hv : VB L) (h : CRel c L P) (p : Int) : InB (prN L p).1.1 ∧ InB (prN L p).1.2.1 ∧ InB (prN L p).1.2.2 ∧ InB (prN L p).2 := by
  unfold prN
  split
  · have hi : p.toNat < L.procs.length := by omega
    have h1 := phase_in h p.toNat
    rw [phaseOf_eq L _ hi] at h1
    have h2 := h.rel.node64 _ hi
    obtain ⟨h2, h3⟩ := h2
    have h4 := hv.pr _ (List.getElem_mem hi)
    rw [List.getD_eq_getElem?_getD, List.getElem?_eq_getElem hi, Option.getD_some]
    exact ⟨h1, inbN (k := (L.procs[p.toNat]).2.node) (by omega) (by omega), h4.2, inbN (k := 0) (by omega) (by omega)⟩
  · exact ⟨inbN (k := 0) (by omega) (by omega), inbN (k := 0) (by omega) (by omega), inbN (k := 0) (by omega) (by omega), inbN (k := 5) (by omega) (by omega)⟩
theorem numT_len {n e : Int} (hn : InB n) (he : InB e) : (numT n e).length ≤ 21 := by
  have h1 := hn.len
  have h2 := he.len
  unfold numT
  split
  · omega
  · simp; omega
theorem procT_len {p : Int × Int × Int} {e : Int} (h1 : InB p.1) (h2 : InB p.2.1) (h3 : InB p.2.2) (he : InB e) : (procT p e).length ≤ 62 := by
  have a1 := h1.len
  have a2 := h2.len
  have a3 := h3.len
  have a4 := he.len
  unfold procT
  split <;> simp <;> omega
/-- No answer is long. -/
theorem ans_len {c : Conf} {L : Lay} {P : PLay} (hv : VB L) (h : CRel c L P) (cm : Cm) : (ansOf c L cm).1.length ≤ 10000000 := by
  unfold ansOf
  split
  · have := numT_len (stN_in h cm.a cm.b).1 (stN_in h cm.a cm.b).2; simp only; omega
  · split
    · have := numT_len (rsN_in h cm.a cm.b).1 (rsN_in h cm.a cm.b).2; simp only; omega
    · split
      · obtain ⟨a, b, d, e⟩ := prN_in hv h cm.a
        have := procT_len a b d e; simp only; omega
      · split
        · obtain ⟨a, b⟩ := rnodes_ndb hv h
          have := leaves_len [] a
          simp only [leavesT, List.length_nil] at this ⊢
          omega
        · have := numT_len (spN_in h (opOf cm)).1 (spN_in h (opOf cm)).2; simp only; omega

end Go.Proofs.YtjnmpejcegmkhaaGreatDoor

namespace Go.Proofs.YtjnmpejcegmkhaaGreatDoor
open Go.RowKit

/-- A reader of the text t that has come to r. -/
structure RdAt (w : World) (rb : Nat) (t : List UInt8) (r : Nat) : Prop where
  blk : w.heap[rb]? = some (.cells #[S t, I r] 71 (0, 0))
  le : r ≤ t.length
  len : t.length ≤ 600

theorem RdAt.below {w w' : World} {rb r : Nat} {t : List UInt8} (h : RdAt w rb t r) (hb : Below w.heap.size w w') : RdAt w' rb t r :=
  ⟨(hb.block _ (Array.getElem?_eq_some_iff.1 h.blk).1).trans h.blk, h.le, h.len⟩
theorem RdAt.put {w : World} {rb q : Nat} {t : List UInt8} (h : RdAt w rb t q) (hq : q < t.length) : RdAt (w.setCell ⟨rb, 1, none⟩ (I ((q : Int) + 1))) rb t (q + 1) ∧ ChgT rb [71] w (w.setCell ⟨rb, 1, none⟩ (I ((q : Int) + 1))) := by
  refine ⟨⟨?_, by omega, h.len⟩, ⟨rfl, rfl, rfl, by simp [World.setCell], fun k _ hc => Below.heap_setCell _ _ _ _ ?_⟩⟩
  · have := nb_set h.blk 1 (I ((q : Int) + 1))
    rw [this]
    rfl
  · intro e
    have e' : k = rb := e
    rcases hc with hc | hc
    · omega
    · exact absurd (hc _ _ _ (by rw [e']; exact h.blk)) (by simp)

set_option maxHeartbeats 4000000 in
theorem isDigit_c (b : UInt8) (w : World) : Calls Tryz.prog 90 #[.int .u8 b.toNat] w fun e w' => e = .returned (.bool (isDg b)) ∧ w' = w := by
  have HD : Hid (isDg b = (decide (48 ≤ b.toNat) && decide (b.toNat ≤ 57))) := by
    show _ = _
    unfold isDg
    simp [UInt8.le_iff_toNat_le]
  generalize isDg b = x at *
  generalize b.toNat = n at *
  by_cases h1 : 48 ≤ n
  · by_cases h2 : n ≤ 57
    · have b1 : decide ((n : Int) ≥ 48) = true := by simp; omega
      have b2 : decide ((n : Int) ≤ 57) = true := by simp; omega
      have e : x = true := by rw [HD.out]; simp; omega
      subst e
      clear HD h1 h2
      go_enter Tryz.func90, Tryz.ntmps90
      go_wp2
      go_ret
      exact ⟨rfl, rfl⟩
    · have b1 : decide ((n : Int) ≥ 48) = true := by simp; omega
      have b2 : decide ((n : Int) ≤ 57) = false := by simp; omega
      have e : x = false := by rw [HD.out]; simp; omega
      subst e
      clear HD h1 h2
      go_enter Tryz.func90, Tryz.ntmps90
      go_wp2
      go_ret
      exact ⟨rfl, rfl⟩
  · have b1 : decide ((n : Int) ≥ 48) = false := by simp; omega
    have e : x = false := by rw [HD.out]; simp; omega
    subst e
    clear HD h1
    go_enter Tryz.func90, Tryz.ntmps90
    go_wp2
    go_ret
    exact ⟨rfl, rfl⟩

set_option maxHeartbeats 4000000 in
theorem skip_c {w : World} {rb r : Nat} {t : List UInt8} (h : RdAt w rb t r) (b : UInt8) : Calls Tryz.prog 20 #[.pointer (some ⟨rb, 0, none⟩), .int .u8 b.toNat] w fun e w' => e = .returned (.bool (decide ((t.drop r).head? = some b))) ∧ RdAt w' rb t (if (t.drop r).head? = some b then r + 1 else r) ∧ ChgT rb [71] w w' := by
  obtain ⟨f1, f2⟩ := nb_facts h.blk
  have c0 := f1 0
  have c1 := f1 1
  simp at c0 c1
  have z1 := f2 1
  have hle := h.le
  have hlen := h.len
  have ll := cell_lt c0
  by_cases hr : r < t.length
  · have hd : t.drop r = t[r] :: t.drop (r + 1) := List.drop_eq_getElem_cons hr
    rw [hd, List.head?_cons]
    have hx : ((⟨t.toArray⟩ : ByteArray)[r]'hr).toNat = (t[r]).toNat := rfl
    have b1 : decide (t.length ≤ r) = false := by simp; omega
    by_cases hb : t[r] = b
    · rw [if_pos (by rw [hb]), decide_eq_true (by rw [hb])]
      rw [hb] at hx
      have HR : Hid (RdAt (w.setCell ⟨rb, 1, none⟩ (I ((r : Int) + 1))) rb t (r + 1) ∧ ChgT rb [71] w (w.setCell ⟨rb, 1, none⟩ (I ((r : Int) + 1)))) := by
        refine ⟨⟨?_, by omega, hlen⟩, ⟨rfl, rfl, rfl, by simp [World.setCell], fun k _ hc => Below.heap_setCell _ _ _ _ ?_⟩⟩
        · have := nb_set h.blk 1 (I ((r : Int) + 1))
          rw [this]
          rfl
        · intro e
          have e' : k = rb := e
          rcases hc with hc | hc
          · omega
          · exact absurd (hc _ _ _ (by rw [e']; exact h.blk)) (by simp)
      clear h f1 f2 hd hb
      go_enter Tryz.func20, Tryz.ntmps20
      go_wp2_with fail
      go_quiet (fail)
      go_wp2
      go_ret
      exact ⟨rfl, ⟨HR.out.1.blk, HR.out.1.le, HR.out.1.len⟩, ⟨HR.out.2.os, HR.out.2.tape, HR.out.2.output, HR.out.2.size, HR.out.2.block⟩⟩
    · have b2 : (((t[r]).toNat : Int) != (b.toNat : Int)) = true := by
        rw [bne_iff_ne]
        intro e
        exact hb (UInt8.toNat_inj.1 (by omega))
      rw [if_neg (by simpa using hb), decide_eq_false (by simpa using hb)]
      have HR : Hid (RdAt w rb t r) := h
      generalize (t[r]).toNat = k at *
      clear h f1 f2 hd hb
      go_enter Tryz.func20, Tryz.ntmps20
      go_wp2_with fail
      go_quiet (fail)
      go_wp2
      go_ret
      exact ⟨rfl, ⟨HR.out.blk, HR.out.le, HR.out.len⟩, ChgT.of_below (Below.drewN' (Below.refl _ _) _)⟩
  · have hd : t.drop r = [] := List.drop_eq_nil_of_le (by omega)
    rw [hd]
    have b1 : decide (t.length ≤ r) = true := by simp; omega
    have HR : Hid (RdAt w rb t r) := h
    rw [if_neg (by simp), decide_eq_false (by simp)]
    clear h f1 f2 hd
    go_enter Tryz.func20, Tryz.ntmps20
    go_wp2_with fail
    go_quiet (fail)
    go_wp2
    go_ret
    exact ⟨rfl, ⟨HR.out.blk, HR.out.le, HR.out.len⟩, ChgT.of_below (Below.drewN' (Below.refl _ _) _)⟩

/-- A number is read: at most six digits. -/
theorem dgOf_drop {l : List UInt8} {k : Nat} (hk : k < (dgOf l).length) : ∃ h : k < l.length, (dgOf l)[k] = l[k] ∧ isDg l[k] = true ∧ k < 6 := by
  unfold dgOf at hk ⊢
  have hp : (l.take 6).takeWhile isDg <+: l.take 6 := List.takeWhile_prefix _
  have h1 : k < (l.take 6).length := Nat.lt_of_lt_of_le hk hp.length_le
  have h2 : k < l.length ∧ k < 6 := by simp at h1; omega
  have e : ((l.take 6).takeWhile isDg)[k] = l[k]'h2.1 := by
    rw [hp.getElem hk]
    simp
  have ha : isDg ((l.take 6).takeWhile isDg)[k] = true := by
    have := List.all_takeWhile (p := isDg) (l := l.take 6)
    rw [List.all_eq_true] at this
    exact this _ (List.getElem_mem hk)
  exact ⟨h2.1, e, by rw [← e]; exact ha, h2.2⟩
theorem tw_stop (l : List UInt8) : (l.takeWhile isDg).length = l.length ∨ ∃ h : (l.takeWhile isDg).length < l.length, isDg l[(l.takeWhile isDg).length] = false := by
  induction l with
  | nil => exact Or.inl rfl
  | cons b l ih =>
    cases hb : isDg b with
    | false => exact Or.inr ⟨by simp [hb], by simp [hb]⟩
    | true =>
      rcases ih with h | ⟨h, e⟩
      · exact Or.inl (by simp [hb, h])
      · exact Or.inr ⟨by simp [hb]; exact h, by simp [hb]; exact e⟩
theorem dgOf_stop (l : List UInt8) : (dgOf l).length = 6 ∨ (dgOf l).length = l.length ∨ ∃ h : (dgOf l).length < l.length, isDg l[(dgOf l).length] = false := by
  rcases tw_stop (l.take 6) with h | ⟨h, e⟩
  · have : (dgOf l).length = min 6 l.length := by unfold dgOf; rw [h, List.length_take]
    omega
  · refine Or.inr (Or.inr ⟨?_, ?_⟩)
    · unfold dgOf
      simp at h
      omega
    · simpa [dgOf] using e
theorem valOf_take {l : List UInt8} {k : Nat} (hk : k < l.length) : valOf (l.take (k + 1)) = 10 * valOf (l.take k) + ((l[k].toNat : Int) - 48) := by
  rw [List.take_succ_eq_append_getElem hk]
  simp only [valOf, List.foldl_append, List.foldl_cons, List.foldl_nil]
theorem isDg_range {b : UInt8} (h : isDg b = true) : 48 ≤ b.toNat ∧ b.toNat ≤ 57 := by
  unfold isDg at h
  simp [UInt8.le_iff_toNat_le] at h
  exact h
theorem valOf_range {l : List UInt8} (h : ∀ b ∈ l, isDg b = true) : ∀ k, k ≤ l.length → 0 ≤ valOf (l.take k) ∧ valOf (l.take k) < ((10 ^ k : Nat) : Int)
  | 0, _ => by simp [valOf]
  | k + 1, hk => by
    have ih := valOf_range h k (by omega)
    rw [valOf_take (by omega : k < l.length)]
    have := isDg_range (h l[k] (List.getElem_mem _))
    rw [Nat.pow_succ]
    omega
theorem dgOf_all (l : List UInt8) : ∀ b ∈ dgOf l, isDg b = true := by
  intro b hb
  obtain ⟨k, hk, rfl⟩ := List.getElem_of_mem hb
  obtain ⟨_, e, h, _⟩ := dgOf_drop hk
  rw [e]
  exact h

set_option maxHeartbeats 8000000 in
set_option maxRecDepth 100000 in
theorem readNumber_c {w : World} {rb r : Nat} {t : List UInt8} (h : RdAt w rb t r) : Calls Tryz.prog 64 #[.pointer (some ⟨rb, 0, none⟩)] w fun e w' => e = .returned (.tuple #[I (valOf (dgOf (t.drop r))), .bool (decide (0 < (dgOf (t.drop r)).length))]) ∧ RdAt w' rb t (r + (dgOf (t.drop r)).length) ∧ ChgT rb [71] w w' := by
  have hle := h.le
  have hlen := h.len
  have HR : Hid (∀ k, k ≤ (dgOf (t.drop r)).length → 0 ≤ valOf ((dgOf (t.drop r)).take k) ∧ valOf ((dgOf (t.drop r)).take k) < ((10 ^ k : Nat) : Int)) := valOf_range (dgOf_all _)
  have HK : Hid (∀ k, k < (dgOf (t.drop r)).length → ∃ hk : r + k < t.length, isDg t[r + k] = true ∧ k < 6 ∧ valOf ((dgOf (t.drop r)).take (k + 1)) = 10 * valOf ((dgOf (t.drop r)).take k) + ((t[r + k].toNat : Int) - 48)) := by
    intro k hk
    obtain ⟨h1, e, h2, h3⟩ := dgOf_drop hk
    have h4 : r + k < t.length := by simp at h1; omega
    have e2 : (t.drop r)[k] = t[r + k] := by simp
    exact ⟨h4, by rw [← e2]; exact h2, h3, by rw [valOf_take hk, e, e2]⟩
  have HS : Hid ((dgOf (t.drop r)).length = 6 ∨ r + (dgOf (t.drop r)).length = t.length ∨ ∃ h : r + (dgOf (t.drop r)).length < t.length, isDg t[r + (dgOf (t.drop r)).length] = false) := by
    rcases dgOf_stop (t.drop r) with h | h | ⟨h, e⟩
    · exact Or.inl h
    · exact Or.inr (Or.inl (by simp at h; omega))
    · exact Or.inr (Or.inr ⟨by simp at h; omega, by simpa using e⟩)
  have HV : Hid (valOf (dgOf (t.drop r)) = valOf ((dgOf (t.drop r)).take (dgOf (t.drop r)).length)) := by show _ = _; rw [List.take_length]
  have H6 : Hid ((dgOf (t.drop r)).length ≤ 6) := by
    show _ ≤ _
    by_cases h : (dgOf (t.drop r)).length ≤ 6
    · exact h
    · obtain ⟨_, _, h6, _⟩ := HK.out 6 (by omega)
      omega
  rw [HV.out]
  generalize dgOf (t.drop r) = ds at *
  have h0 : Hid _ := h
  clear h HV
  generalize hm : ds.length = m at *
  generalize hV : valOf (ds.take m) = V
  generalize hKB : decide (0 < m) = KB
  replace hV : Hid _ := hV
  replace hKB : Hid _ := hKB
  go_enter Tryz.func64, Tryz.ntmps64
  go_wp2_with fail
  go_loopw [4, 5] (fun nn dd wr => ∃ k : Nat, k ≤ m ∧ nn = I (valOf (ds.take k)) ∧ dd = I k ∧ Hid (RdAt wr rb t (r + k)) ∧ ChgT rb [71] w wr) (fun _ dd _ => 6 - (intOf dd).toNat)
  case atStart => exact ⟨0, Nat.zero_le _, rfl, rfl, h0, ChgT.refl _ _ _⟩
  case round =>
    obtain ⟨k, hk, rfl, rfl, hr, hcr⟩ := hrel
    generalize hq : r + k = q at hr
    obtain ⟨f1, f2⟩ := nb_facts hr.out.blk
    have c0 := f1 0
    have c1 := f1 1
    simp at c0 c1
    have z1 := f2 1
    have hv := HR.out k hk
    have h6 := H6.out
    have hp : ((10 ^ k : Nat) : Int) ≤ 1000000 := by
      have : 10 ^ k ≤ 10 ^ 6 := Nat.pow_le_pow_right (by omega) (by omega)
      omega
    have hv1 := hv.1
    have hv2 : valOf (ds.take k) < 1000000 := by omega
    clear hv hp
    by_cases hkm : k < m
    · obtain ⟨g1, g2, g3, g4⟩ := HK.out k hkm
      have g1' : q < t.length := by omega
      have g2' : isDg t[q] = true := by simpa [hq] using g2
      have g4' : valOf (ds.take (k + 1)) = 10 * valOf (ds.take k) + ((t[q].toNat : Int) - 48) := by simpa [hq] using g4
      clear g1 g2 g4
      have g1 := g1'
      have g2 := g2'
      have g4 := g4'
      clear g2' g4'
      have hx : ((⟨t.toArray⟩ : ByteArray)[q]'g1).toNat = (t[q]).toNat := rfl
      have b1 : decide ((k : Int) < 6) = true := by simp; omega
      have b2 : decide ((q : Int) < (t.length : Int)) = true := by simp; omega
      have hdg := isDg_range g2
      have hI : ∀ W, Calls Tryz.prog 90 #[.int .u8 ((t[q]).toNat : Int)] W fun e w' => e = .returned (.bool true) ∧ w' = W := by
        intro W
        have := isDigit_c (t[q]) W
        rw [g2] at this
        exact this
      replace g4 : Hid _ := g4
      generalize (t[q]).toNat = d at *
      generalize hvk : valOf (ds.take k) = vk at *
      clear g2 HK HR HS f1 f2
      go_wp2_with fail
      go_quiet ((go_at_call 90; exact Calls.quiet_of_same (hI _)))
      go_wp2_with fail
      go_quiet (fail)
      go_wp2
      have hp := fun n => RdAt.put (hr.out.below (Below.drewN' (Below.refl _ _) n)) g1
      refine ⟨⟨k + 1, by omega, ?_, rfl, ?_, ?_⟩, ?_⟩
      · rw [g4.out]
      · show RdAt _ _ _ (r + (k + 1))
        have e : r + (k + 1) = q + 1 := by omega
        rw [e]
        exact (hp _).1
      · exact (hcr.trans (ChgT.of_below (Below.drewN' (Below.refl _ _) _))).trans (hp _).2
      · show 6 - ((k : Int) + 1).toNat < 6 - (k : Int).toNat
        omega
    · have ek : k = m := by omega
      subst ek
      have HRr : Hid (RdAt wr rb t (r + k)) := by rw [hq]; exact hr
      have hdk : decide ((k : Int) > 0) = KB := by rw [← hKB.out]; exact decide_eq_decide.2 (by omega)
      rw [hV.out]
      rcases HS.out with h7 | h7 | ⟨h7, h8⟩
      · have b1 : decide ((k : Int) < 6) = false := by simp; omega
        clear hv1 hv2
        clear HK HR HS f1 f2 hq hk hkm
        go_wp2_with fail
        go_quiet (fail)
        go_wp2
        go_ret2
        exact ⟨by rw [← hKB.out]; first | rfl | (have e6 : decide (0 < k) = true := (by simp; omega); rw [e6]; rfl), HRr.out.below (Below.drewN' (Below.refl _ _) _), hcr.trans (ChgT.of_below (Below.drewN' (Below.refl _ _) _))⟩
      · have b2 : decide ((q : Int) < (t.length : Int)) = false := by simp; omega
        have b2' : decide (q < t.length) = false := by simp; omega
        by_cases h6k : k = 6
        · have b1 : decide ((k : Int) < 6) = false := by simp; omega
          clear HK HR HS f1 f2 hq hk hkm
          go_wp2_with fail
          go_quiet (fail)
          go_wp2
          go_ret2
          exact ⟨by rw [← hKB.out]; first | rfl | (have e6 : decide (0 < k) = true := (by simp; omega); rw [e6]; rfl), HRr.out.below (Below.drewN' (Below.refl _ _) _), hcr.trans (ChgT.of_below (Below.drewN' (Below.refl _ _) _))⟩
        · have b1 : decide ((k : Int) < 6) = true := by simp; omega
          clear HK HR HS f1 f2 hq hk hkm
          go_wp2_with fail
          go_quiet (fail)
          go_wp2
          go_ret2
          exact ⟨by rw [← hKB.out]; first | rfl | (have e6 : decide (0 < k) = true := (by simp; omega); rw [e6]; rfl), HRr.out.below (Below.drewN' (Below.refl _ _) _), hcr.trans (ChgT.of_below (Below.drewN' (Below.refl _ _) _))⟩
      · have h7' : q < t.length := by omega
        have h8' : isDg t[q] = false := by simpa [hq] using h8
        have hx : ((⟨t.toArray⟩ : ByteArray)[q]'h7').toNat = (t[q]).toNat := rfl
        have b2 : decide ((q : Int) < (t.length : Int)) = true := by simp; omega
        have hI : ∀ W, Calls Tryz.prog 90 #[.int .u8 ((t[q]).toNat : Int)] W fun e w' => e = .returned (.bool false) ∧ w' = W := by
          intro W
          have := isDigit_c (t[q]) W
          rw [h8'] at this
          exact this
        generalize (t[q]).toNat = d at *
        by_cases h6k : k = 6
        · have b1 : decide ((k : Int) < 6) = false := by simp; omega
          clear HK HR HS f1 f2 hq hk hkm h8 h8'
          go_wp2_with fail
          go_quiet (fail)
          go_wp2
          go_ret2
          exact ⟨by rw [← hKB.out]; first | rfl | (have e6 : decide (0 < k) = true := (by simp; omega); rw [e6]; rfl), HRr.out.below (Below.drewN' (Below.refl _ _) _), hcr.trans (ChgT.of_below (Below.drewN' (Below.refl _ _) _))⟩
        · have b1 : decide ((k : Int) < 6) = true := by simp; omega
          clear HK HR HS f1 f2 hq hk hkm h8 h8'
          go_wp2_with fail
          go_quiet ((go_at_call 90; exact Calls.quiet_of_same (hI _)))
          go_wp2
          go_ret2
          exact ⟨by rw [← hKB.out]; first | rfl | (have e6 : decide (0 < k) = true := (by simp; omega); rw [e6]; rfl), HRr.out.below (Below.drewN' (Below.refl _ _) _), hcr.trans (ChgT.of_below (Below.drewN' (Below.refl _ _) _))⟩

end Go.Proofs.YtjnmpejcegmkhaaGreatDoor

namespace Go.Proofs.YtjnmpejcegmkhaaGreatDoor

/-- A text at the first byte c: what stands ahead of it, behind it, and whether it is there. -/
def cutL (c : UInt8) : List UInt8 → List UInt8 × List UInt8 × Bool
  | [] => ([], [], false)
  | x :: r => if x = c then ([], r, true) else (x :: (cutL c r).1, (cutL c r).2)
theorem cutL_eq (c : UInt8) : ∀ l, c ∉ (cutL c l).1 ∧ ((cutL c l).2.2 = true → l = (cutL c l).1 ++ c :: (cutL c l).2.1) ∧ ((cutL c l).2.2 = false → l = (cutL c l).1 ∧ (cutL c l).2.1 = [])
  | [] => by simp [cutL]
  | x :: r => by
    have ih := cutL_eq c r
    unfold cutL
    by_cases h : x = c
    · rw [if_pos h]; simp [h]
    · rw [if_neg h]
      refine ⟨?_, fun h2 => ?_, fun h2 => ?_⟩
      · simp only [List.mem_cons, not_or]
        exact ⟨fun e => h e.symm, ih.1⟩
      · have := ih.2.1 h2
        simp only [List.cons_append]
        rw [← this]
      · have := ih.2.2 h2
        refine ⟨?_, this.2⟩
        simp only
        rw [← this.1]
theorem cutL_at (c : UInt8) : ∀ (l : List UInt8) (i : Nat) (hi : i < l.length), l[i] = c → (∀ j, (hj : j < i) → l[j]'(by omega) ≠ c) → cutL c l = (l.take i, l.drop (i + 1), true)
  | x :: r, 0, _, h, _ => by
    simp at h
    simp [cutL, h]
  | x :: r, i + 1, hi, h, hn => by
    have h0 := hn 0 (by omega)
    simp at h0
    have := cutL_at c r i (by simp at hi; omega) (by simpa using h) (fun j hj => by have := hn (j + 1) (by omega); simpa using this)
    unfold cutL
    rw [if_neg h0, this]
    simp
theorem cutL_no (c : UInt8) : ∀ (l : List UInt8), (∀ j, (hj : j < l.length) → l[j] ≠ c) → cutL c l = (l, [], false)
  | [], _ => rfl
  | x :: r, hn => by
    have h0 := hn 0 (by simp)
    simp at h0
    have := cutL_no c r (fun j hj => by have := hn (j + 1) (by simpa using hj); simpa using this)
    unfold cutL
    rw [if_neg h0, this]
theorem cutL_len (c : UInt8) (l : List UInt8) : (cutL c l).1.length ≤ l.length ∧ (cutL c l).2.1.length ≤ l.length ∧ ((cutL c l).2.2 = true → (cutL c l).2.1.length < l.length) := by
  have h := cutL_eq c l
  cases hb : (cutL c l).2.2 with
  | true =>
    have e := congrArg List.length (h.2.1 hb)
    simp at e
    refine ⟨by omega, by omega, fun _ => by omega⟩
  | false =>
    obtain ⟨e, e2⟩ := h.2.2 hb
    have e := congrArg List.length e
    rw [e2]
    simp
    omega

def partsF : Nat → List UInt8 → List (List UInt8)
  | 0, _ => []
  | f + 1, l => if (cutL 59 l).2.2 = true then (cutL 59 l).1 :: partsF f (cutL 59 l).2.1 else [(cutL 59 l).1]
def partsL (l : List UInt8) : List (List UInt8) := if l = [] then [] else partsF (l.length + 1) l
/-- A part, as a command. -/
def cmdOpt (p : List UInt8) : Option Cm := (rdCm p).bind fun x => if x.2 = [] then some x.1 else none
def allC : List (List UInt8) → Option (List Cm)
  | [] => some []
  | p :: r => (cmdOpt p).bind fun c => (allC r).map fun l => c :: l

theorem tw_ext : ∀ (n : Nat) (p r : List UInt8), (∀ b, r.head? = some b → isDg b = false) → ((p ++ r).take n).takeWhile isDg = (p.take n).takeWhile isDg
  | 0, p, r, _ => by simp
  | n + 1, [], r, h => by
    cases r with
    | nil => rfl
    | cons b r => simp [h b rfl]
  | n + 1, x :: p, r, h => by
    simp only [List.cons_append, List.take_succ_cons, List.takeWhile_cons]
    rw [tw_ext n p r h]
theorem dgOf_ext (p : List UInt8) {r : List UInt8} (h : ∀ b, r.head? = some b → isDg b = false) : dgOf (p ++ r) = dgOf p := tw_ext 6 p r h
theorem dgOf_pre (p : List UInt8) : dgOf p <+: p := (List.takeWhile_prefix _).trans (List.take_prefix _ _)
theorem rdNum_ext (p : List UInt8) {r : List UInt8} (h : ∀ b, r.head? = some b → isDg b = false) : rdNum (p ++ r) = (rdNum p).map fun x => (x.1, x.2 ++ r) := by
  unfold rdNum
  rw [dgOf_ext p h]
  split
  · rfl
  · simp only [Option.map_some]
    rw [List.drop_append_of_le_length (dgOf_pre p).length_le]
theorem rdOne_ext (c : UInt8) (p : List UInt8) {r : List UInt8} (h : EndOk r) : rdOne c (p ++ r) = (rdOne c p).map fun x => (x.1, x.2 ++ r) := by
  unfold rdOne
  rw [rdNum_ext p h.nd]
  cases rdNum p <;> rfl
theorem head_ext {q r : List UInt8} (h : EndOk r) (b : UInt8) (hb : b ≠ 59) : ((q ++ r).head? = some b ↔ q.head? = some b) := by
  cases q with
  | nil =>
    rcases h with rfl | h
    · simp
    · simp [h, Ne.symm hb]
  | cons x q => simp
theorem rdTwo_ext (c : UInt8) (p : List UInt8) {r : List UInt8} (h : EndOk r) : rdTwo c (p ++ r) = (rdTwo c p).map fun x => (x.1, x.2 ++ r) := by
  unfold rdTwo
  rw [rdNum_ext p h.nd]
  cases rdNum p with
  | none => rfl
  | some x =>
    simp only [Option.map_some, Option.bind_some]
    by_cases h4 : x.2.head? = some 44
    · rw [if_pos h4, if_pos ((head_ext h 44 (by decide)).2 h4)]
      have e : (x.2 ++ r).tail = x.2.tail ++ r := by
        cases hq : x.2 with
        | nil => rw [hq] at h4; simp at h4
        | cons y q => rfl
      rw [e, rdNum_ext _ h.nd]
      cases rdNum x.2.tail <;> rfl
    · rw [if_neg h4, if_neg (fun hx => h4 ((head_ext h 44 (by decide)).1 hx))]
      rfl
theorem rdPut_ext (p : List UInt8) {r : List UInt8} (h : EndOk r) : rdPut (p ++ r) = (rdPut p).map fun x => (x.1, x.2 ++ r) := by
  unfold rdPut
  by_cases h4 : p.head? = some 45
  · rw [if_pos h4, if_pos ((head_ext h 45 (by decide)).2 h4)]
    have e : (p ++ r).tail = p.tail ++ r := by
      cases hq : p with
      | nil => rw [hq] at h4; simp at h4
      | cons y q => rfl
    rw [e, rdNum_ext _ h.nd]
    cases rdNum p.tail <;> rfl
  · rw [if_neg h4, if_neg (fun hx => h4 ((head_ext h 45 (by decide)).1 hx))]
    exact rdOne_ext 112 p h
theorem rdCm_ext (p : List UInt8) {r : List UInt8} (h : EndOk r) : rdCm (p ++ r) = (rdCm p).map fun x => (x.1, x.2 ++ r) := by
  cases p with
  | nil =>
    rcases h with rfl | h
    · rfl
    · cases r with
      | nil => simp at h
      | cons b r =>
        simp at h
        subst h
        rfl
  | cons c q =>
    simp only [List.cons_append, rdCm]
    split
    · rfl
    split
    · exact rdPut_ext q h
    split
    · exact rdOne_ext c q h
    split
    · exact rdTwo_ext c q h
    · rfl
theorem rdNum_suf {l : List UInt8} {x : Int × List UInt8} (h : rdNum l = some x) : x.2 <:+ l := by
  unfold rdNum at h
  split at h
  · simp at h
  · simp only [Option.some.injEq] at h
    rw [← h]
    exact List.drop_suffix _ _
theorem rdCm_suf {l : List UInt8} {x : Cm × List UInt8} (h : rdCm l = some x) : x.2 <:+ l := by
  cases l with
  | nil => simp [rdCm] at h
  | cons c r =>
    have one : ∀ y : Cm × List UInt8, rdOne c r = some y → y.2 <:+ c :: r := by
      intro y hy
      unfold rdOne at hy
      cases hn : rdNum r with
      | none => rw [hn] at hy; simp at hy
      | some z =>
        rw [hn] at hy
        simp at hy
        rw [← hy]
        exact (rdNum_suf hn).trans (List.suffix_cons _ _)
    simp only [rdCm] at h
    split at h
    · simp at h; rw [← h]; exact List.suffix_cons _ _
    split at h
    · rename_i h2
      unfold rdPut at h
      split at h
      · cases hn : rdNum r.tail with
        | none => rw [hn] at h; simp at h
        | some z =>
          rw [hn] at h
          simp at h
          rw [← h]
          exact ((rdNum_suf hn).trans (List.tail_suffix _)).trans (List.suffix_cons _ _)
      · rw [← h2] at h
        exact one x h
    split at h
    · exact one x h
    split at h
    · unfold rdTwo at h
      cases hn : rdNum r with
      | none => rw [hn] at h; simp at h
      | some z =>
        rw [hn] at h
        simp only [Option.bind_some] at h
        split at h
        · cases hm : rdNum z.2.tail with
          | none => rw [hm] at h; simp at h
          | some y =>
            rw [hm] at h
            simp at h
            rw [← h]
            exact (((rdNum_suf hm).trans (List.tail_suffix _)).trans (rdNum_suf hn)).trans (List.suffix_cons _ _)
        · simp at h
    · simp at h
theorem rdAll_one (f : Nat) (p : List UInt8) (hp : (59 : UInt8) ∉ p) : rdAll (f + 1) p = (cmdOpt p).map fun c => [c] := by
  unfold rdAll cmdOpt
  cases hc : rdCm p with
  | none => rfl
  | some x =>
    simp only [Option.bind_some]
    by_cases hx : x.2 = []
    · rw [if_pos hx, if_pos hx]; rfl
    · rw [if_neg hx, if_neg hx, if_neg]
      · rfl
      · intro h9
        have := (rdCm_suf hc).subset (List.mem_of_mem_head? h9)
        exact hp this
theorem rdAll_more (f : Nat) (p r : List UInt8) (hp : (59 : UInt8) ∉ p) : rdAll (f + 1) (p ++ 59 :: r) = (cmdOpt p).bind fun c => (rdAll f r).map fun l => c :: l := by
  have e : EndOk (59 :: r) := Or.inr rfl
  unfold cmdOpt
  rw [rdAll, rdCm_ext p e]
  cases hc : rdCm p with
  | none => rfl
  | some x =>
    simp only [Option.map_some, Option.bind_some]
    rw [if_neg (by simp)]
    by_cases hx : x.2 = []
    · rw [if_pos hx, hx]
      simp
    · rw [if_neg hx, if_neg]
      · rfl
      · intro h9
        cases hq : x.2 with
        | nil => exact hx hq
        | cons y q =>
          rw [hq] at h9
          simp at h9
          have := (rdCm_suf hc).subset (a := y) (by rw [hq]; simp)
          rw [h9] at this
          exact hp this
theorem rdAll_parts : ∀ (f : Nat) (l : List UInt8) (g : Nat), l.length ≤ f → l.length < g → rdAll f l = allC (partsF g l)
  | 0, l, g, h, hg => by
    have : l = [] := List.length_eq_zero_iff.1 (by omega)
    subst this
    obtain ⟨g, rfl⟩ : ∃ k, g = k + 1 := ⟨g - 1, by omega⟩
    rfl
  | f + 1, l, g, h, hg => by
    obtain ⟨g, rfl⟩ : ∃ k, g = k + 1 := ⟨g - 1, by omega⟩
    have hc := cutL_eq 59 l
    have hl := cutL_len 59 l
    unfold partsF
    cases hb : (cutL 59 l).2.2 with
    | true =>
      rw [if_pos rfl]
      have e := hc.2.1 hb
      have ih := rdAll_parts f (cutL 59 l).2.1 g (by have := hl.2.2 hb; omega) (by have := hl.2.2 hb; omega)
      unfold allC
      rw [← ih]
      conv => lhs; rw [e]
      exact rdAll_more f _ _ hc.1
    | false =>
      rw [if_neg (by simp)]
      obtain ⟨e, _⟩ := hc.2.2 hb
      rw [← e]
      have : (59 : UInt8) ∉ l := by rw [e]; exact hc.1
      rw [rdAll_one f l this]
      unfold allC allC
      cases cmdOpt l <;> rfl
/-- What is read is what the parts are. -/
theorem rdText_parts (t : List UInt8) : rdText t = if 600 < t.length then none else allC (partsL t) := by
  unfold rdText partsL
  split
  · rfl
  · split
    · rfl
    · exact rdAll_parts _ _ _ (Nat.le_refl _) (by omega)

/- A part, looked at as the document does. -/
def digB (s : List UInt8) : Bool := decide (1 ≤ s.length) && decide (s.length ≤ 6) && s.all isDg
theorem num_full (l : List UInt8) : ((rdNum l).bind fun x => if x.2 = [] then some x.1 else none) = if digB l = true then some (valOf l) else none := by
  by_cases hd : digB l = true
  · rw [if_pos hd]
    simp [digB] at hd
    have e : dgOf l = l := by
      unfold dgOf
      rw [List.take_of_length_le hd.1.2]
      have := takeWhile_all (l := l) (r := []) (fun b hb => hd.2 b hb) (by simp)
      simpa using this
    unfold rdNum
    rw [e, if_neg (by intro h; rw [h] at hd; simp at hd)]
    simp
  · rw [if_neg hd]
    unfold rdNum
    split
    · rfl
    · rename_i hne
      simp only [Option.bind_some]
      rw [if_neg]
      intro hz
      apply hd
      have hle : l.length ≤ (dgOf l).length := by simpa using List.drop_eq_nil_iff.1 hz
      have e : dgOf l = l := (dgOf_pre l).eq_of_length_le hle
      have h6 : (dgOf l).length ≤ 6 := by
        unfold dgOf
        exact Nat.le_trans (List.takeWhile_prefix _).length_le (by simp; omega)
      have ha : (dgOf l).all isDg = true := List.all_takeWhile
      rw [e] at h6 ha
      simp only [digB, Bool.and_eq_true, decide_eq_true_eq]
      refine ⟨⟨?_, h6⟩, ha⟩
      rw [e] at hne
      exact List.length_pos_iff.2 hne
def restP (r : List UInt8) : List UInt8 := if r.head? = some 45 then r.tail else r
def rightB : List UInt8 → Bool
  | [] => false
  | c :: r =>
    if c = 105 ∨ c = 103 ∨ c = 108 then r.isEmpty
    else if c = 112 then digB (restP r)
    else if c = 102 ∨ c = 117 ∨ c = 113 then digB r
    else if c = 115 ∨ c = 114 then (cutL 44 r).2.2 && digB (cutL 44 r).1 && digB (cutL 44 r).2.1
    else false
def cmdR : List UInt8 → Cm
  | [] => ⟨0, 0, 0⟩
  | c :: r =>
    if c = 105 ∨ c = 103 ∨ c = 108 then ⟨c, 0, 0⟩
    else if c = 112 then ⟨112, if r.head? = some 45 then -(valOf r.tail) else valOf r, 0⟩
    else if c = 102 ∨ c = 117 ∨ c = 113 then ⟨c, valOf r, 0⟩
    else ⟨c, valOf (cutL 44 r).1, valOf (cutL 44 r).2.1⟩
theorem bind_map {α β γ : Type} (o : Option α) (f : α → β) (g : β → Option γ) : (o.map f).bind g = o.bind fun x => g (f x) := by cases o <;> rfl
theorem one_full (c : UInt8) (r : List UInt8) : ((rdOne c r).bind fun x => if x.2 = [] then some x.1 else none) = if digB r = true then some ⟨c, valOf r, 0⟩ else none := by
  unfold rdOne
  rw [bind_map]
  have h := num_full r
  cases hn : rdNum r with
  | none =>
    rw [hn] at h
    by_cases hd : digB r = true
    · rw [if_pos hd] at h; simp at h
    · rw [if_neg hd]; rfl
  | some x =>
    rw [hn] at h
    simp only [Option.bind_some] at h ⊢
    by_cases hx : x.2 = []
    · rw [if_pos hx] at h ⊢
      by_cases hd : digB r = true
      · rw [if_pos hd] at h ⊢
        simp at h
        rw [h]
      · rw [if_neg hd] at h; simp at h
    · rw [if_neg hx] at h ⊢
      by_cases hd : digB r = true
      · rw [if_pos hd] at h; simp at h
      · rw [if_neg hd]
theorem dg_no44 {l : List UInt8} (h : l.all isDg = true) : (44 : UInt8) ∉ l := by
  intro hm
  have := List.all_eq_true.1 h 44 hm
  exact absurd this (by decide)
theorem cut_dg : ∀ (d b : List UInt8), (44 : UInt8) ∉ d → cutL 44 (d ++ 44 :: b) = (d, b, true)
  | [], b, _ => by simp [cutL]
  | x :: d, b, h => by
    simp only [List.mem_cons, not_or] at h
    have ih := cut_dg d b h.2
    simp only [List.cons_append]
    unfold cutL
    rw [if_neg (fun e => h.1 e.symm), ih]
theorem two_full (c : UInt8) (r : List UInt8) : ((rdTwo c r).bind fun x => if x.2 = [] then some x.1 else none) = if ((cutL 44 r).2.2 && digB (cutL 44 r).1 && digB (cutL 44 r).2.1) = true then some ⟨c, valOf (cutL 44 r).1, valOf (cutL 44 r).2.1⟩ else none := by
  have hc := cutL_eq 44 r
  by_cases hd : ((cutL 44 r).2.2 && digB (cutL 44 r).1 && digB (cutL 44 r).2.1) = true
  · rw [if_pos hd]
    simp only [Bool.and_eq_true] at hd
    obtain ⟨⟨h1, h2⟩, h3⟩ := hd
    have e := hc.2.1 h1
    generalize (cutL 44 r).1 = a at *
    generalize (cutL 44 r).2.1 = b at *
    have na := num_full a
    have nb := num_full b
    rw [if_pos h2] at na
    rw [if_pos h3] at nb
    have ea : rdNum a = some (valOf a, []) := by
      cases hn : rdNum a with
      | none => rw [hn] at na; simp at na
      | some x =>
        rw [hn] at na
        simp only [Option.bind_some] at na
        split at na
        · rename_i hx
          simp at na
          rw [← na, ← hx]
        · simp at na
    have eb : rdNum b = some (valOf b, []) := by
      cases hn : rdNum b with
      | none => rw [hn] at nb; simp at nb
      | some x =>
        rw [hn] at nb
        simp only [Option.bind_some] at nb
        split at nb
        · rename_i hx
          simp at nb
          rw [← nb, ← hx]
        · simp at nb
    unfold rdTwo
    rw [e, rdNum_ext a (r := 44 :: b) (fun x hx => by simp at hx; rw [← hx]; decide), ea]
    simp [eb]
  · rw [if_neg hd]
    unfold rdTwo
    cases hn : rdNum r with
    | none => rfl
    | some x =>
      simp only [Option.bind_some]
      by_cases h4 : x.2.head? = some 44
      · rw [if_pos h4]
        cases hm : rdNum x.2.tail with
        | none => rfl
        | some y =>
          simp only [Option.map_some, Option.bind_some]
          rw [if_neg]
          intro hy
          apply hd
          have hx : x = (valOf (dgOf r), r.drop (dgOf r).length) ∧ dgOf r ≠ [] := by
            unfold rdNum at hn
            split at hn
            · simp at hn
            · rename_i hne
              simp at hn
              exact ⟨hn.symm, hne⟩
          have hr : r = dgOf r ++ x.2 := by
            rw [hx.1]
            exact (List.prefix_iff_eq_append.1 (dgOf_pre r)).symm
          obtain ⟨b, hb⟩ : ∃ b, x.2 = 44 :: b := by
            cases hq : x.2 with
            | nil => rw [hq] at h4; simp at h4
            | cons z b => rw [hq] at h4; simp at h4; exact ⟨b, by rw [h4]⟩
          rw [hb] at hr hm
          have hall : (dgOf r).all isDg = true := List.all_takeWhile
          have h6 : (dgOf r).length ≤ 6 := by
            unfold dgOf
            exact Nat.le_trans (List.takeWhile_prefix _).length_le (by simp; omega)
          have hcut : cutL 44 r = (dgOf r, b, true) := by
            conv => lhs; rw [hr]
            exact cut_dg _ _ (dg_no44 hall)
          have hdb : digB b = true := by
            have nb := num_full b
            simp only [List.tail_cons] at hm
            rw [hm] at nb
            simp only [Option.bind_some] at nb
            rw [if_pos hy] at nb
            by_cases hd2 : digB b = true
            · exact hd2
            · rw [if_neg hd2] at nb; simp at nb
          rw [hcut]
          simp only [Bool.true_and, Bool.and_eq_true]
          refine ⟨?_, hdb⟩
          simp only [digB, Bool.and_eq_true, decide_eq_true_eq]
          exact ⟨⟨List.length_pos_iff.2 hx.2, h6⟩, hall⟩
      · rw [if_neg h4]; rfl
theorem cmd_eq (p : List UInt8) : cmdOpt p = if rightB p = true then some (cmdR p) else none := by
  cases p with
  | nil => rfl
  | cons c r =>
    unfold cmdOpt
    have e1 : rightB (c :: r) = (if c = 105 ∨ c = 103 ∨ c = 108 then r.isEmpty else if c = 112 then digB (restP r) else if c = 102 ∨ c = 117 ∨ c = 113 then digB r else if c = 115 ∨ c = 114 then (cutL 44 r).2.2 && digB (cutL 44 r).1 && digB (cutL 44 r).2.1 else false) := rfl
    rw [e1]
    simp only [rdCm, cmdR]
    by_cases h1 : c = 105 ∨ c = 103 ∨ c = 108
    · rw [if_pos h1, if_pos h1, if_pos h1]
      simp only [Option.bind_some, List.isEmpty_iff]
    rw [if_neg h1, if_neg h1, if_neg h1]
    by_cases h2 : c = 112
    · rw [if_pos h2, if_pos h2, if_pos h2]
      unfold rdPut restP
      by_cases h4 : r.head? = some 45
      · rw [if_pos h4, if_pos h4, if_pos h4, bind_map]
        have h := num_full r.tail
        cases hn : rdNum r.tail with
        | none =>
          rw [hn] at h
          by_cases hd : digB r.tail = true
          · rw [if_pos hd] at h; simp at h
          · rw [if_neg hd]; rfl
        | some x =>
          rw [hn] at h
          simp only [Option.bind_some] at h ⊢
          by_cases hx : x.2 = []
          · rw [if_pos hx] at h ⊢
            by_cases hd : digB r.tail = true
            · rw [if_pos hd] at h ⊢
              simp at h
              rw [h]
            · rw [if_neg hd] at h; simp at h
          · rw [if_neg hx] at h ⊢
            by_cases hd : digB r.tail = true
            · rw [if_pos hd] at h; simp at h
            · rw [if_neg hd]
      · rw [if_neg h4, if_neg h4, if_neg h4]
        exact one_full 112 r
    rw [if_neg h2, if_neg h2, if_neg h2]
    by_cases h3 : c = 102 ∨ c = 117 ∨ c = 113
    · rw [if_pos h3, if_pos h3, if_pos h3]
      exact one_full c r
    rw [if_neg h3, if_neg h3, if_neg h3]
    by_cases h4 : c = 115 ∨ c = 114
    · rw [if_pos h4, if_pos h4]
      exact two_full c r
    · rw [if_neg h4, if_neg h4]
      rfl
/-- All parts are right, and the commands that they are. -/
theorem allC_eq : ∀ ps : List (List UInt8), allC ps = if ps.all rightB = true then some (ps.map cmdR) else none
  | [] => rfl
  | p :: r => by
    unfold allC
    rw [cmd_eq p, allC_eq r]
    simp only [List.all_cons, Bool.and_eq_true, List.map_cons]
    by_cases h1 : rightB p = true
    · rw [if_pos h1]
      by_cases h2 : r.all rightB = true
      · rw [if_pos h2, if_pos ⟨h1, h2⟩]; rfl
      · rw [if_neg h2, if_neg (fun h => h2 h.2)]; rfl
    · rw [if_neg h1, if_neg (show ¬ (rightB p = true ∧ r.all rightB = true) from fun h => h1 h.1)]; rfl

end Go.Proofs.YtjnmpejcegmkhaaGreatDoor
