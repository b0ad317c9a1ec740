/- Rest, of the program and of the document: both take the same steps. Rest of the document. No statement of the seat is proved here. Texts: how a script is read into its commands, and how a command is spelt; what is spelt is read back. Of no program. No statement of the seat is proved here. The texts of the answers: numbers, processes, leaves; how long they are. Of no memory. No statement of the seat is proved here. Trees of the document, in no memory: what each command of a script answers, as a text; how great the numbers in a tree are. Of no memory. No statement of the seat is proved here. Itoa: a number's decimal text; what lay there stays. No statement of the seat is proved here. A tree of the program in memory, the document's tree beside it in no memory: the contracts of Spawn, Step, Rest, Proc, Nodes by the document's answers alone. No statement of the seat is proved here. The texts of the program's answers: contracts of errorText, numberText, procText. No statement of the seat is proved here. Contracts of package prismkeep's small functions: within, good, pick, changer, among. No statement of the seat is proved here. Package prismkeep's texts: contracts of number, fits, text. No statement of the seat is proved here. A script spelt step by step, and its answers beside it. Of no program. No statement of the seat is proved here. Package prismkeep's texts: contract of text. No statement of the seat is proved here. The texts of the program's answers: contracts of procText, leafText. No statement of the seat is proved here. The texts of the program's answers: contract of leafText. No statement of the seat is proved here. -/
import Derived.Test.YtjnmpejcegmkhabDoorDBoth
import Derived.Lib.ItoaMem
import Derived.Test.YtjnmpejcegmkhabDoorRefStA
import Derived.Test.YtjnmpejcegmkhabDoorIto
import Derived.Lib.AppendIntMem
import Derived.Below
import Derived.Deep.RegionHeld
import Derived.Deep.RegionWith
import Derived.Deep.QuietTactic
import Derived.BigQuiet
import Derived.Deep.RegionHeld3
namespace Go.Proofs.YtjnmpejcegmkhabDoor
open Go.RowKit
set_option linter.unusedVariables false

theorem len_ite {p : Prop} [Decidable p] {a b : Lay} {n : Nat} (h1 : p → a.procs.length = n) (h2 : ¬ p → b.procs.length = n) : (if p then a else b).procs.length = n := by
  by_cases hp : p
  · rw [if_pos hp]; exact h1 hp
  · rw [if_neg hp]; exact h2 hp
theorem lstep_len (L : Lay) (i : Nat) (d : Int) : (lstep L i d).procs.length = L.procs.length := by
  unfold lstep
  cases L.procs[i]? with
  | none => rfl
  | some x =>
    simp only
    refine len_ite (fun _ => ?_) (fun _ => len_ite (fun _ => by simp) (fun _ => len_ite (fun _ => by simp) (fun _ => len_ite (fun _ => by simp) (fun _ => len_ite (fun _ => len_ite (fun _ => by simp) (fun _ => len_ite (fun _ => by simp) (fun _ => by simp))) (fun _ => len_ite (fun _ => len_ite (fun _ => by simp) (fun _ => by simp)) (fun _ => len_ite (fun _ => ?_) (fun _ => len_ite (fun _ => len_ite (fun _ => by simp) (fun _ => len_ite (fun _ => by simp) (fun _ => by simp))) (fun _ => by simp))))))))
    · cases L.procs[(incPr x.2).mind.toNat]? with
      | none => simp
      | some y => exact len_ite (fun _ => by simp) (fun _ => by simp)
    · cases itemH (L.hist (incPr x.2).node.toNat) (incPr x.2).ticket with
      | none => simp
      | some z => simp

theorem CRel.next {c : Conf} {B : Nat} {L : Lay} {P : PLay} (h : CRel c L P) {i : Nat} (hi : i < L.procs.length) (hl : (L.procs[i]).2.phase ≠ 20) (draw : Int) :
    ∃ ph, ProgStep B P i draw ph (fun P' => P'.tb = P.tb ∧ CRel c (lstep L i draw) P') ∧ RefStep B L i draw ph (fun L' => L'.tb = L.tb ∧ Same (lstep L i draw) L') ∧ ∃ P', CRel c (lstep L i draw) P' := by
  obtain ⟨v, n, hh⟩ := h.rel.here hi hl
  obtain ⟨ph, FP, FL, h1, h2, h3, ⟨⟨P0, hP0⟩, ⟨L0, hL0⟩, h4⟩, h5, h6⟩ := hh.both (B := B) h.ck draw
  have key : ∀ P', FP P' → CRel c (lstep L i draw) P' := fun P' hP => (h1 L0 P' hL0 hP).same (h4 L0 hL0).symm
  refine ⟨ph, ⟨fun W a b => (h5.1 W a b).mono ?_, fun W a b => (h5.2 W a b).mono ?_⟩, fun W a b => (h6 W a b).mono ?_, P0, key P0 hP0⟩
  · rintro e w' ⟨e0, ⟨P', x, y⟩, z⟩
    exact ⟨e0, ⟨P', ⟨h2 P' x, key P' x⟩, y⟩, z⟩
  · rintro e w' ⟨e0, ⟨P', x, y⟩, z⟩
    exact ⟨e0, ⟨P', ⟨h2 P' x, key P' x⟩, y⟩, z⟩
  · rintro e w' ⟨e0, ⟨L', x, y⟩, z⟩
    exact ⟨e0, ⟨L', ⟨h3 L' x, h4 L' x⟩, y⟩, z⟩

/-- The first k processes take their step of a round. -/
def lroundTo (L : Lay) (d : Int) : Nat → Lay
  | 0 => L
  | k + 1 => if ((lroundTo L d k).procs.getD k (0, newPr ⟨0, 0, 0⟩)).2.phase = 20 then lroundTo L d k else lstep (lroundTo L d k) k (d + k)
theorem lroundTo_len (L : Lay) (d : Int) : ∀ k, (lroundTo L d k).procs.length = L.procs.length
  | 0 => rfl
  | k + 1 => by
    unfold lroundTo
    split
    · exact lroundTo_len L d k
    · rw [lstep_len, lroundTo_len L d k]
def lrest (L : Lay) (m : Int) : Nat → Lay
  | 0 => L
  | r + 1 => lroundTo (lrest L m r) (m + r) L.procs.length
theorem lrest_len (L : Lay) (m : Int) : ∀ r, (lrest L m r).procs.length = L.procs.length
  | 0 => rfl
  | r + 1 => by unfold lrest; rw [lroundTo_len, lrest_len L m r]

theorem CRel.plen {c : Conf} {L : Lay} {P : PLay} (h : CRel c L P) : P.procs.length = L.procs.length := by rw [h.rel.procs, List.length_map]
theorem CRel.pphase {c : Conf} {L : Lay} {P : PLay} (h : CRel c L P) (k : Nat) (hk : k < L.procs.length) (hk' : k < P.procs.length) : (P.procs[k]).phase = (L.procs[k]).2.phase := by
  have : P.procs[k] = toPP (L.procs[k]).2 := by simp [h.rel.procs]
  rw [this]
  rfl

set_option maxHeartbeats 4000000 in
theorem pround_c {c : Conf} {w : World} {B : Nat} {L : Lay} {P : PLay} (hr : CRel c L P) (h : PRep w B P) (hB : B ≤ w.heap.size) (d : Int) (hd0 : 0 ≤ d) (hd : d ≤ 1000) :
    Calls Tryd.prog 29 #[.pointer (some ⟨P.tb, 0, none⟩), I d] w fun e w' => e = .returned (.tuple #[]) ∧ (∃ P', P'.tb = P.tb ∧ CRel c (lroundTo L d L.procs.length) P' ∧ PRep w' B P') ∧ ChgT B [77, 83, 121] w w' := by
  have hnp := hr.rel.np
  have HK : Hid (∀ (k : Nat) (P' : PLay) (wr : World), k < L.procs.length → CRel c (lroundTo L d k) P' → PRep wr B P' → P'.tb = P.tb →
      ∃ (g : Nat) (cap : Nat) (ph : Int), wr.cell? ⟨P.tb, 680, none⟩ = some (.slice (some ⟨g, 0, none⟩) L.procs.length cap) ∧ L.procs.length ≤ cap ∧ cap ≤ 2 ^ 63 - 1 ∧ wr.cell? ⟨g, k * 11 + 3, none⟩ = some (I ph) ∧
        (ph = 20 → CRel c (lroundTo L d (k + 1)) P') ∧ (ph ≠ 20 → B ≤ wr.heap.size → Calls Tryd.prog 27 #[.pointer (some ⟨P.tb, 0, none⟩), I k, I (d + k)] wr fun e w' => e = .returned (.tuple #[]) ∧ (∃ P'', P''.tb = P.tb ∧ CRel c (lroundTo L d (k + 1)) P'' ∧ PRep w' B P'') ∧ ChgT B [77, 83, 121] wr w')) := by
    intro k P' wr hk hc hp htb
    have hlL := lroundTo_len L d k
    have hlP := hc.plen
    obtain ⟨ao, cap, e1, q1, q2, q3, hx⟩ := hp.pp_at
    have p1 := hp.pcell
    have hkP : k < P'.procs.length := by omega
    have hkL : k < (lroundTo L d k).procs.length := by omega
    obtain ⟨g, rfl, hf⟩ := hx k hkP
    have hph := hc.pphase k hkL hkP
    have eg : (lroundTo L d k).procs.getD k (0, newPr ⟨0, 0, 0⟩) = (lroundTo L d k).procs[k] := by simp [List.getD_eq_getElem?_getD, List.getElem?_eq_getElem hkL]
    have el : P'.procs.length = L.procs.length := by omega
    rw [e1, el, htb] at p1
    refine ⟨g, cap, (P'.procs[k]).phase, p1, by omega, by unfold maxLen at q3; omega, hf 3 (by omega), fun h20 => ?_, fun h20 hBr => ?_⟩
    · unfold lroundTo
      rw [eg, if_pos (by rw [← hph]; exact h20)]
      exact hc
    · obtain ⟨ph, hp1, _, _⟩ := hc.next (B := B) hkL (by rw [← hph]; exact h20) (d + k)
      have := hp1.1 wr hp hBr
      rw [htb] at this
      refine this.mono ?_
      rintro e w' ⟨e0, ⟨P'', ⟨a, b⟩, y⟩, z⟩
      refine ⟨e0, ⟨P'', a, ?_, y⟩, z⟩
      unfold lroundTo
      rw [eg, if_neg (by rw [← hph]; exact h20)]
      exact b
  have HE : Hid (∀ (P' : PLay) (wr : World) (k : Nat), CRel c (lroundTo L d k) P' → PRep wr B P' → P'.tb = P.tb → ∃ ao cap, wr.cell? ⟨P.tb, 680, none⟩ = some (.slice ao L.procs.length cap)) := by
    intro P' wr k hc hp htb
    obtain ⟨ao, cap, e1, _⟩ := hp.pp_at
    have p1 := hp.pcell
    have hlL := lroundTo_len L d k
    have hlP := hc.plen
    have el : P'.procs.length = L.procs.length := by omega
    rw [e1, el, htb] at p1
    exact ⟨ao, cap, p1⟩
  have H0 : Hid (CRel c (lroundTo L d 0) P) := hr
  clear hr
  generalize hn : L.procs.length = np at *
  go_enter Tryd.func29, Tryd.ntmps29
  go_wp2_with fail
  go_loopw [4] (fun i wr => ∃ (k : Nat) (P' : PLay), k ≤ np ∧ i = .int .i64 k ∧ P'.tb = P.tb ∧ CRel c (lroundTo L d k) P' ∧ PRep wr B P' ∧ ChgT B [77, 83, 121] w wr) (fun i _ => np - (intOf i).toNat)
  case atStart => exact ⟨0, P, by omega, rfl, rfl, H0.out, h, ChgT.refl _ _ _⟩
  case round =>
    obtain ⟨k, P', hk, rfl, htb, hc, hp, hch⟩ := hrel
    have hBr : B ≤ wr.heap.size := Nat.le_trans hB hch.size
    by_cases hlt : k < np
    · obtain ⟨g, cap, ph, p1, p2, p3, c3, hd20, hst⟩ := HK.out k P' wr hlt hc hp htb
      by_cases h20 : ph = 20
      · have hc' := hd20 h20
        have b1 : (ph != 20) = false := by simp [h20]
        replace hc' : Hid _ := hc'
        replace hch : Hid _ := hch
        replace hp : Hid _ := hp
        replace htb : Hid _ := htb
        clear hd20 hst h20 hc
        go_wp2
        go_roundw
        case rel => exact ⟨k + 1, P', by omega, by go_num, htb.out, hc'.out, hp.out, hch.out⟩
        case measure => simp [intOf]; omega
      · have hcall := hst h20 hBr
        have b1 : (ph != 20) = true := by simp [h20]
        replace hcall : Hid _ := hcall
        replace hch : Hid _ := hch
        clear hd20 hst h20 hc hp htb
        go_wp2_with fail
        refine Calls.mono hcall.out ?_
        rintro e w' ⟨rfl, ⟨P'', t1, t2, t3⟩, t4⟩
        have hch2 := hch.out.trans t4
        replace t1 : Hid _ := t1
        replace t2 : Hid _ := t2
        replace t3 : Hid _ := t3
        replace hch2 : Hid _ := hch2
        clear hcall hch t4 p1 c3
        go_wp2
        go_roundw
        case rel => exact ⟨k + 1, P'', by omega, by go_num, t1.out, t2.out, t3.out, hch2.out⟩
        case measure => simp [intOf]; omega
    · have ek : k = np := by omega
      obtain ⟨ao, cap, p1⟩ := HE.out P' wr k hc hp htb
      subst ek
      replace hc : Hid _ := hc
      replace hch : Hid _ := hch
      replace hp : Hid _ := hp
      replace htb : Hid _ := htb
      go_wp2_with fail
      go_end0
      exact ⟨rfl, ⟨P', htb.out, hc.out, hp.out⟩, hch.out⟩

set_option maxHeartbeats 4000000 in
theorem prest_ok {c : Conf} {w : World} {B : Nat} {L : Lay} {P : PLay} (hr : CRel c L P) (h : PRep w B P) (hB : B ≤ w.heap.size) (r : Nat) (hr9 : r ≤ 100) (draw : Int) :
    Calls Tryd.prog 18 #[.pointer (some ⟨P.tb, 0, none⟩), I r, I draw] w fun e w' => e = .returned (.tuple #[I (liveL (lrest L (draw % 12) r).procs), I 0]) ∧ (∃ P', P'.tb = P.tb ∧ CRel c (lrest L (draw % 12) r) P' ∧ PRep w' B P') ∧ ChgT B [77, 83, 121] w w' := by
  have hm := fun W => modulo_c draw 12 (by omega) (by omega) W
  have m0 := Int.emod_nonneg draw (show (12 : Int) ≠ 0 by omega)
  have m1 := Int.emod_lt_of_pos draw (show (0 : Int) < 12 by omega)
  have hm' : ∀ W, Calls Tryd.prog 28 #[I draw, I 12] W fun e w' => e = .returned (I (draw % 12)) ∧ w' = W := hm
  clear hm
  have HR : Hid (∀ (k : Nat) (P' : PLay) (wr : World), k < r → CRel c (lrest L (draw % 12) k) P' → PRep wr B P' → P'.tb = P.tb → B ≤ wr.heap.size → Calls Tryd.prog 29 #[.pointer (some ⟨P.tb, 0, none⟩), I (draw % 12 + k)] wr fun e w' => e = .returned (.tuple #[]) ∧ (∃ P'', P''.tb = P.tb ∧ CRel c (lrest L (draw % 12) (k + 1)) P'' ∧ PRep w' B P'') ∧ ChgT B [77, 83, 121] wr w') := by
    intro k P' wr hk hc hp htb hBr
    have := pround_c hc hp hBr (draw % 12 + k) (by omega) (by omega)
    rw [htb, lrest_len] at this
    exact this
  have HL : Hid (∀ (P' : PLay) (wr : World), CRel c (lrest L (draw % 12) r) P' → PRep wr B P' → P'.tb = P.tb → Calls Tryd.prog 30 #[.pointer (some ⟨P.tb, 0, none⟩)] wr fun e w' => e = .returned (I (liveL (lrest L (draw % 12) r).procs)) ∧ w' = wr) := by
    intro P' wr hc hp htb
    have := plive_c hp
    rw [htb, plive_w hc.rel] at this
    exact this
  have H0 : Hid (CRel c (lrest L (draw % 12) 0) P) := hr
  replace hm' : Hid _ := hm'
  clear hr
  generalize draw % 12 = m at *
  have hrn : decide ((r : Int) < 0) = false := by simp
  have hr1 : decide ((100 : Int) < (r : Int)) = false := by simp; omega
  go_enter Tryd.func18, Tryd.ntmps18
  go_wp2_with fail
  refine Calls.mono (hm'.out _) ?_
  rintro e w1 ⟨rfl, rfl⟩
  clear hm'
  go_wp2_with fail
  go_loopw [9] (fun i wr => ∃ (k : Nat) (P' : PLay), k ≤ r ∧ i = .int .i64 k ∧ P'.tb = P.tb ∧ CRel c (lrest L m k) P' ∧ PRep wr B P' ∧ ChgT B [77, 83, 121] w1 wr) (fun i _ => r - (intOf i).toNat)
  case atStart => exact ⟨0, P, by omega, rfl, rfl, H0.out, h, ChgT.refl _ _ _⟩
  case round =>
    obtain ⟨k, P', hk, rfl, htb, hc, hp, hch⟩ := hrel
    have hBr : B ≤ wr.heap.size := Nat.le_trans hB hch.size
    by_cases hlt : k < r
    · have hcall := HR.out k P' wr hlt hc hp htb hBr
      replace hcall : Hid _ := hcall
      replace hch : Hid _ := hch
      clear hc hp htb
      go_wp2_with fail
      refine Calls.mono hcall.out ?_
      rintro e w' ⟨rfl, ⟨P'', t1, t2, t3⟩, t4⟩
      have hch2 := hch.out.trans t4
      replace t1 : Hid _ := t1
      replace t2 : Hid _ := t2
      replace t3 : Hid _ := t3
      replace hch2 : Hid _ := hch2
      clear hcall hch t4
      go_wp2
      go_roundw
      case rel => exact ⟨k + 1, P'', by omega, by go_num, t1.out, t2.out, t3.out, hch2.out⟩
      case measure => simp [intOf]; omega
    · have ek : k = r := by omega
      subst ek
      have hcall := HL.out P' wr hc hp htb
      replace hcall : Hid _ := hcall
      replace hc : Hid _ := hc
      replace hch : Hid _ := hch
      replace hp : Hid _ := hp
      replace htb : Hid _ := htb
      obtain ⟨lv, hlv⟩ : ∃ lv, lv = liveL (lrest L m k).procs := ⟨_, rfl⟩
      rw [← hlv] at hcall
      have HLV : Hid (lv = liveL (lrest L m k).procs) := hlv
      clear hlv
      go_wp2_with fail
      refine Calls.mono hcall.out ?_
      rintro e w' ⟨rfl, rfl⟩
      go_wp2
      go_ret2
      refine ⟨?_, ⟨P', htb.out, hc.out, hp.out⟩, hch.out⟩
      rw [← HLV.out]
      rfl

set_option maxHeartbeats 2000000 in
theorem prest_err {w : World} (tb : Nat) (a b : Int) (ha : a < 0 ∨ 100 < a) :
    Calls Tryd.prog 18 #[.pointer (some ⟨tb, 0, none⟩), I a, I b] w fun e w' => e = .returned (.tuple #[I 0, I 6]) ∧ w' = w := by
  by_cases h0 : a < 0
  · clear ha
    go_enter Tryd.func18, Tryd.ntmps18
    go_wp2
    go_ret2
    exact ⟨rfl, rfl⟩
  · have hd : decide (a < 0) = false := by simp; omega
    have h1 : 100 < a := by omega
    clear ha h0
    go_enter Tryd.func18, Tryd.ntmps18
    go_wp2
    go_ret2
    exact ⟨rfl, rfl⟩

end Go.Proofs.YtjnmpejcegmkhabDoor

namespace Go.Proofs.YtjnmpejcegmkhabDoor

/-- A command: its letter and its numbers. -/
structure Cm where
  ch : UInt8
  a : Int
  b : Int

def isDg (b : UInt8) : Bool := decide (48 ≤ b) && decide (b ≤ 57)
/-- The digits that a number takes of what comes next: six at most. -/
def dgOf (l : List UInt8) : List UInt8 := (l.take 6).takeWhile isDg
def valOf (l : List UInt8) : Int := l.foldl (fun n b => 10 * n + ((b.toNat : Int) - 48)) 0
def rdNum (l : List UInt8) : Option (Int × List UInt8) := if dgOf l = [] then none else some (valOf (dgOf l), l.drop (dgOf l).length)
def rdOne (c : UInt8) (l : List UInt8) : Option (Cm × List UInt8) := (rdNum l).map fun x => (⟨c, x.1, 0⟩, x.2)
def rdTwo (c : UInt8) (l : List UInt8) : Option (Cm × List UInt8) :=
  (rdNum l).bind fun x => if x.2.head? = some 44 then (rdNum x.2.tail).map fun y => (⟨c, x.1, y.1⟩, y.2) else none
def rdPut (l : List UInt8) : Option (Cm × List UInt8) :=
  if l.head? = some 45 then (rdNum l.tail).map fun x => (⟨112, -x.1, 0⟩, x.2) else rdOne 112 l
/-- A command is read. -/
def rdCm (l : List UInt8) : Option (Cm × List UInt8) :=
  match l with
  | [] => none
  | c :: r =>
    if c = 105 ∨ c = 103 ∨ c = 108 then some (⟨c, 0, 0⟩, r)
    else if c = 112 then rdPut r
    else if c = 102 ∨ c = 117 ∨ c = 113 then rdOne c r
    else if c = 115 ∨ c = 114 then rdTwo c r
    else none
/-- Commands and what parts them; f: more than their number. -/
def rdAll : Nat → List UInt8 → Option (List Cm)
  | 0, _ => none
  | f + 1, l => (rdCm l).bind fun x => if x.2 = [] then some [x.1] else if x.2.head? = some 59 then (rdAll f x.2.tail).map fun r => x.1 :: r else none
/-- A text is read. -/
def rdText (l : List UInt8) : Option (List Cm) := if 600 < l.length then none else if l = [] then some [] else rdAll l.length l

theorem dg_isDg (k : Nat) (h : k < 10) : isDg (UInt8.ofNat (48 + k)) = true ∧ ((UInt8.ofNat (48 + k)).toNat : Int) - 48 = k := by
  have : k = 0 ∨ k = 1 ∨ k = 2 ∨ k = 3 ∨ k = 4 ∨ k = 5 ∨ k = 6 ∨ k = 7 ∨ k = 8 ∨ k = 9 := by omega
  rcases this with rfl | rfl | rfl | rfl | rfl | rfl | rfl | rfl | rfl | rfl <;> decide
theorem dec_all (n : Nat) : ∀ b ∈ Lib.decDigits n, isDg b = true := by
  induction n using Nat.strongRecOn with
  | ind n ih =>
    intro b hb
    rw [Lib.decDigits] at hb
    by_cases h : n < 10
    · rw [dif_pos h] at hb
      rw [List.mem_singleton] at hb
      rw [hb]
      exact (dg_isDg n h).1
    · rw [dif_neg h] at hb
      rcases List.mem_append.1 hb with hb | hb
      · exact ih (n / 10) (by omega) b hb
      · rw [List.mem_singleton] at hb
        rw [hb]
        exact (dg_isDg (n % 10) (by omega)).1
theorem dec_val (n : Nat) : valOf (Lib.decDigits n) = n := by
  induction n using Nat.strongRecOn with
  | ind n ih =>
    rw [Lib.decDigits]
    by_cases h : n < 10
    · rw [dif_pos h]
      have := (dg_isDg n h).2
      simp only [valOf, List.foldl_cons, List.foldl_nil]
      omega
    · rw [dif_neg h]
      have h1 := ih (n / 10) (by omega)
      have h2 := (dg_isDg (n % 10) (by omega)).2
      simp only [valOf, List.foldl_append, List.foldl_cons, List.foldl_nil] at h1 ⊢
      rw [h1]
      omega
theorem dec_ne (n : Nat) : Lib.decDigits n ≠ [] := by
  rw [Lib.decDigits]
  split <;> simp
theorem dec_len (n : Nat) (h : n ≤ 999999) : (Lib.decDigits n).length ≤ 6 := by
  have key : ∀ (k n : Nat), n < 10 ^ (k + 1) → (Lib.decDigits n).length ≤ k + 1 := by
    intro k
    induction k with
    | zero => intro n h; rw [Lib.decDigits, dif_pos (by omega)]; simp
    | succ k ih =>
      intro n h
      rw [Lib.decDigits]
      split
      · simp
      · have := ih (n / 10) (by rw [Nat.pow_succ] at h; omega)
        simp only [List.length_append, List.length_cons, List.length_nil]
        omega
  exact key 5 n (by omega)

theorem takeWhile_all {l r : List UInt8} (h : ∀ b ∈ l, isDg b = true) (hr : ∀ b, r.head? = some b → isDg b = false) : (l ++ r).takeWhile isDg = l := by
  induction l with
  | nil =>
    cases r with
    | nil => rfl
    | cons b r => simp [hr b rfl]
  | cons b l ih =>
    rw [List.cons_append, List.takeWhile_cons, h b (by simp), if_pos rfl, ih fun x hx => h x (by simp [hx])]

/-- A number that is spelt is read back. -/
theorem rdNum_dec (n : Nat) (h : n ≤ 999999) (r : List UInt8) (hr : ∀ b, r.head? = some b → isDg b = false) : rdNum (Lib.decDigits n ++ r) = some ((n : Int), r) := by
  have hl := dec_len n h
  have e : dgOf (Lib.decDigits n ++ r) = Lib.decDigits n := by
    unfold dgOf
    rw [List.take_append, List.take_of_length_le hl]
    refine takeWhile_all (dec_all n) fun b hb => ?_
    cases r with
    | nil => simp at hb
    | cons x r =>
      cases hk : 6 - (Lib.decDigits n).length with
      | zero => rw [hk] at hb; simp at hb
      | succ k => rw [hk] at hb; simp at hb; exact hr b (by rw [hb]; rfl)
  unfold rdNum
  rw [e, if_neg (dec_ne n), dec_val]
  simp

/-- May the number stand in a script? -/
def fitsN (n : Int) : Bool := decide (0 ≤ n) && decide (n ≤ 999999)
/-- A step of a script as a command's text; none: it is no command. -/
def txOf (k a b : Int) : List UInt8 :=
  if k = 1 then [105] else if k = 3 then [103] else if k = 10 then [108]
  else if k = 2 ∧ -999999 ≤ a ∧ a ≤ 999999 then 112 :: Lib.itoa a
  else if fitsN a = false then []
  else if k = 4 then 102 :: Lib.itoa a else if k = 5 then 117 :: Lib.itoa a else if k = 7 then 113 :: Lib.itoa a
  else if fitsN b = false then []
  else if k = 8 then 115 :: (Lib.itoa a ++ 44 :: Lib.itoa b) else if k = 9 then 114 :: (Lib.itoa a ++ 44 :: Lib.itoa b) else []
/-- The command that it is. -/
def cmOf (k a b : Int) : Cm :=
  if k = 1 then ⟨105, 0, 0⟩ else if k = 3 then ⟨103, 0, 0⟩ else if k = 10 then ⟨108, 0, 0⟩ else if k = 2 then ⟨112, a, 0⟩
  else if k = 4 then ⟨102, a, 0⟩ else if k = 5 then ⟨117, a, 0⟩ else if k = 7 then ⟨113, a, 0⟩ else if k = 8 then ⟨115, a, b⟩ else ⟨114, a, b⟩

/-- What may stand behind a command: nothing, or what parts it from the next. -/
def EndOk (r : List UInt8) : Prop := r = [] ∨ r.head? = some 59
theorem EndOk.nd {r : List UInt8} (h : EndOk r) (b : UInt8) (hb : r.head? = some b) : isDg b = false := by
  rcases h with rfl | h
  · simp at hb
  · rw [h] at hb
    simp at hb
    rw [← hb]
    decide

theorem rdOne_tx (c : UInt8) (a : Int) (h : fitsN a = true) {r : List UInt8} (hr : EndOk r) : rdOne c (Lib.itoa a ++ r) = some (⟨c, a, 0⟩, r) := by
  simp [fitsN] at h
  obtain ⟨n, rfl⟩ := Int.eq_ofNat_of_zero_le h.1
  unfold rdOne
  rw [Lib.itoa_nonneg, rdNum_dec n (by omega) r hr.nd]
  rfl
theorem rdTwo_tx (c : UInt8) (a b : Int) (h : fitsN a = true) (hb : fitsN b = true) {r : List UInt8} (hr : EndOk r) : rdTwo c ((Lib.itoa a ++ 44 :: Lib.itoa b) ++ r) = some (⟨c, a, b⟩, r) := by
  simp [fitsN] at h hb
  obtain ⟨n, rfl⟩ := Int.eq_ofNat_of_zero_le h.1
  obtain ⟨m, rfl⟩ := Int.eq_ofNat_of_zero_le hb.1
  unfold rdTwo
  rw [List.append_assoc, Lib.itoa_nonneg, Lib.itoa_nonneg, rdNum_dec n (by omega) _ (fun x hx => by simp at hx; rw [← hx]; decide)]
  simp only [Option.bind_some, List.cons_append, List.head?_cons, List.tail_cons, if_true]
  rw [rdNum_dec m (by omega) r hr.nd]
  rfl
theorem dec_head (n : Nat) (r : List UInt8) : (Lib.decDigits n ++ r).head? ≠ some 45 := by
  intro h
  cases hd : Lib.decDigits n with
  | nil => exact dec_ne n hd
  | cons x l =>
    rw [hd] at h
    simp at h
    have := dec_all n x (by rw [hd]; simp)
    rw [h] at this
    exact absurd this (by decide)
theorem rdPut_tx (a : Int) (h : -999999 ≤ a ∧ a ≤ 999999) {r : List UInt8} (hr : EndOk r) : rdPut (Lib.itoa a ++ r) = some (⟨112, a, 0⟩, r) := by
  unfold rdPut
  by_cases h0 : a < 0
  · obtain ⟨n, hn⟩ := Int.eq_ofNat_of_zero_le (show 0 ≤ -a by omega)
    have e : a = -(n : Int) := by omega
    subst e
    rw [Lib.itoa_neg n (by omega)]
    simp only [List.cons_append, List.head?_cons, List.tail_cons, if_true]
    rw [rdNum_dec n (by omega) r hr.nd]
    rfl
  · obtain ⟨n, rfl⟩ := Int.eq_ofNat_of_zero_le (show 0 ≤ a by omega)
    rw [if_neg (by rw [Lib.itoa_nonneg]; exact dec_head n r)]
    exact rdOne_tx 112 n (by simp [fitsN]; omega) hr

/-- A command that is spelt is read back. -/
theorem rdCm_tx (k a b : Int) (h : txOf k a b ≠ []) {r : List UInt8} (hr : EndOk r) : rdCm (txOf k a b ++ r) = some (cmOf k a b, r) := by
  unfold txOf at h ⊢
  unfold cmOf
  by_cases h1 : k = 1
  · rw [if_pos h1, if_pos h1]; rfl
  rw [if_neg h1] at h ⊢
  rw [if_neg h1]
  by_cases h3 : k = 3
  · rw [if_pos h3, if_pos h3]; rfl
  rw [if_neg h3] at h ⊢
  rw [if_neg h3]
  by_cases h10 : k = 10
  · rw [if_pos h10, if_pos h10]; rfl
  rw [if_neg h10] at h ⊢
  rw [if_neg h10]
  by_cases h2 : k = 2 ∧ -999999 ≤ a ∧ a ≤ 999999
  · rw [if_pos h2, if_pos h2.1]
    show rdCm (112 :: (Lib.itoa a ++ r)) = _
    simp only [rdCm]
    rw [if_neg (by decide), if_pos trivial]
    exact rdPut_tx a h2.2 hr
  rw [if_neg h2] at h ⊢
  cases fa : fitsN a with
  | false => rw [fa] at h; simp at h
  | true =>
    rw [fa] at h
    simp only [Bool.true_eq_false, if_false] at h ⊢
    have h2' : k ≠ 2 := fun e => h2 ⟨e, by simp [fitsN] at fa; omega⟩
    rw [if_neg h2']
    by_cases h4 : k = 4
    · rw [if_pos h4, if_pos h4]
      show rdCm (102 :: (Lib.itoa a ++ r)) = _
      simp only [rdCm]
      rw [if_neg (by decide), if_neg (by decide), if_pos (by decide)]
      exact rdOne_tx 102 a fa hr
    rw [if_neg h4] at h ⊢
    rw [if_neg h4]
    by_cases h5 : k = 5
    · rw [if_pos h5, if_pos h5]
      show rdCm (117 :: (Lib.itoa a ++ r)) = _
      simp only [rdCm]
      rw [if_neg (by decide), if_neg (by decide), if_pos (by decide)]
      exact rdOne_tx 117 a fa hr
    rw [if_neg h5] at h ⊢
    rw [if_neg h5]
    by_cases h7 : k = 7
    · rw [if_pos h7, if_pos h7]
      show rdCm (113 :: (Lib.itoa a ++ r)) = _
      simp only [rdCm]
      rw [if_neg (by decide), if_neg (by decide), if_pos (by decide)]
      exact rdOne_tx 113 a fa hr
    rw [if_neg h7] at h ⊢
    rw [if_neg h7]
    cases fb : fitsN b with
    | false => rw [fb] at h; simp at h
    | true =>
      rw [fb] at h
      simp only [Bool.true_eq_false, if_false] at h ⊢
      by_cases h8 : k = 8
      · rw [if_pos h8, if_pos h8]
        show rdCm (115 :: ((Lib.itoa a ++ 44 :: Lib.itoa b) ++ r)) = _
        simp only [rdCm]
        rw [if_neg (by decide), if_neg (by decide), if_neg (by decide), if_pos (by decide)]
        exact rdTwo_tx 115 a b fa fb hr
      rw [if_neg h8] at h ⊢
      rw [if_neg h8]
      by_cases h9 : k = 9
      · rw [if_pos h9]
        show rdCm (114 :: ((Lib.itoa a ++ 44 :: Lib.itoa b) ++ r)) = _
        simp only [rdCm]
        rw [if_neg (by decide), if_neg (by decide), if_neg (by decide), if_pos (by decide)]
        exact rdTwo_tx 114 a b fa fb hr
      · rw [if_neg h9] at h
        exact absurd rfl h

/-- The commands of a script, one behind the other. -/
def joinT : List (Int × Int × Int) → List UInt8
  | [] => []
  | [o] => txOf o.1 o.2.1 o.2.2
  | o :: r => txOf o.1 o.2.1 o.2.2 ++ 59 :: joinT r
theorem joinT_cons (o : Int × Int × Int) (r : List (Int × Int × Int)) (hr : r ≠ []) : joinT (o :: r) = txOf o.1 o.2.1 o.2.2 ++ 59 :: joinT r := by
  cases r with
  | nil => exact absurd rfl hr
  | cons x r => rfl
theorem joinT_len (l : List (Int × Int × Int)) (h : ∀ o ∈ l, txOf o.1 o.2.1 o.2.2 ≠ []) : l.length ≤ (joinT l).length := by
  induction l with
  | nil => simp
  | cons o r ih =>
    have h1 := h o (by simp)
    have h2 : 1 ≤ (txOf o.1 o.2.1 o.2.2).length := by cases hx : txOf o.1 o.2.1 o.2.2 with | nil => exact absurd hx h1 | cons => simp
    by_cases hr : r = []
    · subst hr; simpa [joinT] using h2
    · have := ih fun x hx => h x (by simp [hx])
      rw [joinT_cons o r hr]
      simp only [List.length_append, List.length_cons]
      omega
theorem rdAll_join (l : List (Int × Int × Int)) (h : ∀ o ∈ l, txOf o.1 o.2.1 o.2.2 ≠ []) (hl : l ≠ []) (f : Nat) (hf : l.length ≤ f) : rdAll f (joinT l) = some (l.map fun o => cmOf o.1 o.2.1 o.2.2) := by
  induction l generalizing f with
  | nil => exact absurd rfl hl
  | cons o r ih =>
    cases f with
    | zero => simp at hf
    | succ f =>
      have h1 := h o (by simp)
      by_cases hr : r = []
      · subst hr
        have := rdCm_tx o.1 o.2.1 o.2.2 h1 (r := []) (Or.inl rfl)
        rw [List.append_nil] at this
        simp [rdAll, joinT, this]
      · rw [joinT_cons o r hr, rdAll, rdCm_tx o.1 o.2.1 o.2.2 h1 (r := 59 :: joinT r) (Or.inr rfl)]
        simp only [Option.bind_some, List.head?_cons, List.tail_cons, if_true]
        rw [if_neg (by simp), ih (fun x hx => h x (by simp [hx])) hr f (by simp at hf; omega)]
        rfl

/-- A script that is spelt is read back. -/
theorem rdText_join (l : List (Int × Int × Int)) (h : ∀ o ∈ l, txOf o.1 o.2.1 o.2.2 ≠ []) (h6 : (joinT l).length ≤ 600) : rdText (joinT l) = some (l.map fun o => cmOf o.1 o.2.1 o.2.2) := by
  unfold rdText
  rw [if_neg (by omega)]
  by_cases hl : l = []
  · subst hl; rfl
  · have hj := joinT_len l h
    have : joinT l ≠ [] := fun e => by rw [e] at hj; cases l with | nil => exact hl rfl | cons => simp at hj
    rw [if_neg this]
    exact rdAll_join l h hl _ hj

end Go.Proofs.YtjnmpejcegmkhabDoor

namespace Go.Proofs.YtjnmpejcegmkhabDoor
open Go.RowKit

def InB (x : Int) : Prop := -1000000000 ≤ x ∧ x ≤ 1000000000

/- The texts of the answers. -/
def numT (n e : Int) : List UInt8 := if e = 0 then Lib.itoa n else 33 :: Lib.itoa e
def procT (p : Int × Int × Int) (e : Int) : List UInt8 := if e = 0 then Lib.itoa p.1 ++ 44 :: (Lib.itoa p.2.1 ++ 44 :: Lib.itoa p.2.2) else 33 :: Lib.itoa e
/-- The items, each behind a comma. -/
def itemsT : List Int → List UInt8
  | [] => []
  | x :: r => 44 :: (Lib.itoa x ++ itemsT r)
theorem itemsT_app (a b : List Int) : itemsT (a ++ b) = itemsT a ++ itemsT b := by
  induction a with
  | nil => rfl
  | cons x a ih => simp [itemsT, ih]
def headT (d : ND) : List UInt8 := Lib.itoa d.num ++ 58 :: (Lib.itoa d.puts ++ 44 :: Lib.itoa d.gets)
def leafT (d : ND) : List UInt8 := headT d ++ itemsT d.items
def lvS (t : List UInt8) (d : ND) : List UInt8 := if d.inner = true then t else (if t = [] then [] else t ++ [124]) ++ leafT d
def leavesT (l : List ND) : List UInt8 := l.foldl lvS []

/- How long they are. -/
theorem dec_len2 : ∀ (k n : Nat), n < 10 ^ (k + 1) → (Lib.decDigits n).length ≤ k + 1
  | 0, n, h => by rw [Lib.decDigits, dif_pos (by omega)]; simp
  | k + 1, n, h => by
    rw [Lib.decDigits]
    split
    · simp
    · have := dec_len2 k (n / 10) (by rw [Nat.pow_succ] at h; omega)
      simp only [List.length_append, List.length_cons, List.length_nil]
      omega
theorem itoa_len (x : Int) (h0 : -9223372036854775808 ≤ x) (h1 : x ≤ 9223372036854775807) : (Lib.itoa x).length ≤ 20 := by
  by_cases h : x < 0
  · obtain ⟨n, hn⟩ := Int.eq_ofNat_of_zero_le (show 0 ≤ -x by omega)
    have e : x = -(n : Int) := by omega
    subst e
    rw [Lib.itoa_neg n (by omega)]
    have := dec_len2 18 n (by omega)
    simp
    omega
  · obtain ⟨n, rfl⟩ := Int.eq_ofNat_of_zero_le (show 0 ≤ x by omega)
    rw [Lib.itoa_nonneg]
    have := dec_len2 18 n (by omega)
    omega
theorem InB.len {x : Int} (h : InB x) : (Lib.itoa x).length ≤ 20 := by
  obtain ⟨h0, h1⟩ := h
  exact itoa_len x (by omega) (by omega)
theorem itemsT_len : ∀ {l : List Int}, (∀ x ∈ l, InB x) → (itemsT l).length ≤ 21 * l.length
  | [], _ => by simp [itemsT]
  | x :: r, h => by
    have h1 := (h x (by simp)).len
    have h2 := itemsT_len (l := r) fun y hy => h y (by simp [hy])
    simp only [itemsT, List.length_cons, List.length_append]
    omega
/-- A node's numbers are small. -/
structure NdB (d : ND) : Prop where
  num : InB d.num
  puts : InB d.puts
  gets : InB d.gets
  items : ∀ x ∈ d.items, InB x
  many : d.items.length ≤ 10000
theorem NdB.head {d : ND} (h : NdB d) : (headT d).length ≤ 62 := by
  have h1 := h.num.len
  have h2 := h.puts.len
  have h3 := h.gets.len
  simp only [headT, List.length_append, List.length_cons]
  omega
theorem NdB.leaf {d : ND} (h : NdB d) : (leafT d).length ≤ 300000 := by
  have h1 := h.head
  have h2 := itemsT_len h.items
  have h3 := h.many
  simp only [leafT, List.length_append]
  omega
theorem lvS_len {d : ND} (h : NdB d) (t : List UInt8) : (lvS t d).length ≤ t.length + 300001 := by
  have h1 := h.leaf
  unfold lvS
  split
  · omega
  · split <;> simp <;> omega
theorem leaves_len : ∀ {l : List ND} (t : List UInt8), (∀ d ∈ l, NdB d) → (l.foldl lvS t).length ≤ t.length + 300001 * l.length
  | [], t, _ => by simp
  | d :: l, t, h => by
    have h1 := lvS_len (h d (by simp)) t
    have h2 := leaves_len (lvS t d) (l := l) fun y hy => h y (by simp [hy])
    rw [List.foldl_cons, List.length_cons]
    omega

end Go.Proofs.YtjnmpejcegmkhabDoor

namespace Go.Proofs.YtjnmpejcegmkhabDoor
open Go.RowKit

def PB (p : Pr) : Prop := InB p.oval ∧ InB p.val
def HB (l : Hist) : Prop := ∀ e ∈ l, InB e.1.v ∧ ∀ x ∈ e.1.items, InB x
/-- All values of a tree are small. -/
structure VB (L : Lay) : Prop where
  pr : ∀ x ∈ L.procs, PB x.2
  ev : ∀ y ∈ L.past, HB y.2

theorem VB.hist {L : Lay} (h : VB L) (v : Nat) : HB (L.hist v) := by
  unfold Lay.hist
  rw [List.getD_eq_getElem?_getD]
  cases hv : L.past[v]? with
  | none => intro e he; simp at he
  | some y => exact h.ev y (List.mem_of_getElem? hv)
theorem from_in : ∀ {l : Hist}, HB l → ∀ x ∈ (fromH l).1.items, InB x
  | [], _ => by simp [fromH]
  | e :: r, h => by
    intro x hx
    unfold fromH at hx
    split at hx
    · exact (h e (by simp)).2 x hx
    · exact from_in (fun y hy => h y (by simp [hy])) x hx
theorem laid_in {t x : Int} : ∀ {l : Hist}, HB l → laidH t l = some x → InB x
  | [], _, hx => by simp [laidH] at hx
  | e :: r, h, hx => by
    unfold laidH at hx
    split at hx
    · split at hx
      · simp at hx
        rw [← hx]
        exact (h e (by simp)).1
      · exact laid_in (fun y hy => h y (by simp [hy])) hx
    · simp at hx
theorem item_in {l : Hist} (h : HB l) {t x : Int} (hx : itemH l t = some x) : InB x := by
  unfold itemH at hx
  split at hx
  · simp at hx
  · split at hx
    · rename_i h1 h2
      simp at hx
      refine from_in h x ?_
      rw [← hx]
      have : t.toNat < (fromH l).1.items.length := by omega
      rw [List.getElem?_eq_getElem this]
      exact List.getElem_mem _
    · exact laid_in h hx
theorem items_in {l : Hist} (h : HB l) : ∀ x ∈ itemsH l, InB x := by
  intro x hx
  unfold itemsH itemsTo at hx
  obtain ⟨k, _, hk⟩ := List.mem_filterMap.1 hx
  exact item_in h hk
theorem altF_in : ∀ (f : Nat) (a b : List Int), (∀ x ∈ a, InB x) → (∀ x ∈ b, InB x) → ∀ x ∈ altF f a b, InB x
  | 0, _, _, _, _, x, hx => by simp [altF] at hx
  | _ + 1, [], _, _, _, x, hx => by simp [altF] at hx
  | f + 1, y :: a, b, ha, hb, x, hx => by
    simp only [altF, List.mem_cons] at hx
    rcases hx with rfl | hx
    · exact ha x (by simp)
    · exact altF_in f b a hb (fun z hz => ha z (by simp [hz])) x hx
theorem evod_in {l : List Int} (h : ∀ x ∈ l, InB x) (k : Nat) : (∀ x ∈ evT l k, InB x) ∧ ∀ x ∈ odT l k, InB x := by
  constructor
  · intro x hx
    obtain ⟨i, _, hi⟩ := List.mem_filterMap.1 hx
    split at hi
    · exact h x (List.mem_of_getElem? hi)
    · simp at hi
  · intro x hx
    obtain ⟨i, _, hi⟩ := List.mem_filterMap.1 hx
    split at hi
    · simp at hi
    · exact h x (List.mem_of_getElem? hi)
theorem VB.hap {L : Lay} (h : VB L) (v : Nat) (x : Value) (ev : Ev) (iv : Value) (h1 : InB ev.v) (h2 : ∀ x ∈ ev.items, InB x) : VB (L.hap v x ev iv) := by
  refine ⟨h.pr, fun y hy => ?_⟩
  rcases List.mem_or_eq_of_mem_set hy with hy | rfl
  · exact h.ev y hy
  · intro e he
    simp only [List.mem_cons] at he
    rcases he with rfl | he
    · exact ⟨h1, h2⟩
    · exact h.hist v e he
theorem VB.setP {L : Lay} (h : VB L) (i : Nat) (p : Pr) (hp : PB p) : VB (L.setP i p) := by
  refine ⟨fun y hy => ?_, h.ev⟩
  rcases List.mem_or_eq_of_mem_set hy with hy | rfl
  · exact h.pr y hy
  · exact hp
theorem vb_ite {p : Prop} [Decidable p] {a b : Lay} (h1 : p → VB a) (h2 : ¬ p → VB b) : VB (if p then a else b) := by
  by_cases hp : p
  · rw [if_pos hp]; exact h1 hp
  · rw [if_neg hp]; exact h2 hp
theorem pb_ite {p : Prop} [Decidable p] {a b : Pr} (h1 : p → PB a) (h2 : ¬ p → PB b) : PB (if p then a else b) := by
  by_cases hp : p
  · rw [if_pos hp]; exact h1 hp
  · rw [if_neg hp]; exact h2 hp
theorem pb_settled {p q : Pr} (b : Int) (hp : PB p) (hq : PB q) : PB (settledPr p q b) := by
  unfold settledPr
  exact pb_ite (fun _ => hp) fun _ => pb_ite (fun _ => ⟨hp.1, hq.1⟩) fun _ => hp
theorem pb_at {L : Lay} (h : VB L) {k : Nat} {y : Nat × Pr} (hy : L.procs[k]? = some y) : PB y.2 := h.pr y (List.mem_of_getElem? hy)
theorem pb_move {L : Lay} (h : VB L) (v : Nat) {q : Pr} (hq : PB q) (draw : Int) : PB (lmove L v q draw) := by
  have two : ∀ x : Int, x = 1 ∨ x = 2 ∨ x = 3 ∨ x = 4 → InB x := fun x hx => ⟨by omega, by omega⟩
  unfold lmove
  refine pb_ite (fun _ => hq) fun _ => pb_ite (fun _ => pb_ite (fun _ => hq) fun _ => pb_ite (fun _ => hq) fun _ => pb_ite (fun _ => hq) fun _ => ⟨hq.1, two 2 (by omega)⟩) fun _ => pb_ite (fun _ => hq) fun _ => pb_ite (fun _ => hq) fun _ => pb_ite (fun _ => pb_ite (fun _ => hq) fun _ => ?_) fun _ => pb_ite (fun _ => pb_ite (fun _ => hq) fun _ => hq) fun _ => pb_ite (fun _ => ?_) fun _ => pb_ite (fun _ => ?_) fun _ => pb_ite (fun _ => ?_) fun _ => pb_ite (fun _ => ?_) fun _ => pb_ite (fun _ => ⟨hq.1, two 3 (by omega)⟩) fun _ => pb_ite (fun _ => hq) fun _ => hq
  · split
    · exact pb_ite (fun _ => hq) fun _ => hq
    · exact hq
  · unfold waitPr
    exact pb_ite (fun _ => hq) fun _ => pb_ite (fun _ => hq) fun _ => hq
  · split
    · rename_i y hy
      exact pb_settled 0 hq (pb_at h hy)
    · exact hq
  · unfold shutCh
    exact pb_ite (fun _ => ⟨hq.1, two 2 (by omega)⟩) fun _ => hq
  · unfold drainCh
    exact pb_ite (fun _ => hq) fun _ => pb_ite (fun _ => hq) fun _ => hq

theorem WRel.puts64 {c : Conf} {L : Lay} {P : PLay} (h : WRel c L P) (v : Nat) : 0 ≤ putsH (L.hist v) ∧ putsH (L.hist v) ≤ 10000 ∧ (manyH 7 (-1) (L.hist v) : Int) ≤ 10000 ∧ (itemsH (L.hist v)).length ≤ 10000 := by
  have key : 0 ≤ putsH (L.hist v) ∧ putsH (L.hist v) ≤ 10000 ∧ (manyH 7 (-1) (L.hist v) : Int) ≤ 10000 := by
    by_cases hv : v < L.past.length
    · have a1 := h.fn v hv
      have a2 := h.hlen v hv
      have a3 := manyH_le 6 (-1) (L.hist v)
      have a4 := manyH_le 7 (-1) (L.hist v)
      unfold putsH
      omega
    · have : L.hist v = [] := by unfold Lay.hist; rw [List.getD_eq_getElem?_getD, List.getElem?_eq_none (by omega)]; rfl
      rw [this]
      simp [putsH, fromH, manyH]
  have := itemsTo_le (L.hist v) (putsH (L.hist v)).toNat
  refine ⟨key.1, key.2.1, key.2.2, ?_⟩
  unfold itemsH
  omega
theorem num_in {v : Nat} (hv : v < 64) {x : Int} (h0 : 0 ≤ x) (h1 : x ≤ 10000) : InB ((rank v : Int) + x * 2 ^ Nat.log2 v) := by
  have hr : rank v ≤ v := rankTo_le 6 v
  have hl : 2 ^ Nat.log2 v ≤ 64 := by
    by_cases h : v = 0
    · subst h; decide
    · exact Nat.le_of_lt (Nat.lt_of_le_of_lt (Nat.log2_self_le h) hv)
  have e : ((2 : Int) ^ Nat.log2 v) = ((2 ^ Nat.log2 v : Nat) : Int) := by simp
  obtain ⟨n, rfl⟩ := Int.eq_ofNat_of_zero_le h0
  rw [e]
  have : n * 2 ^ Nat.log2 v ≤ 10000 * 64 := Nat.mul_le_mul (by omega) hl
  have e2 : ((n : Int) * ((2 ^ Nat.log2 v : Nat) : Int)) = ((n * 2 ^ Nat.log2 v : Nat) : Int) := by simp
  unfold InB
  rw [e2]
  omega
theorem vb_step {c : Conf} {L : Lay} {P : PLay} (h : VB L) (hr : CRel c L P) (i : Nat) (draw : Int) : VB (lstep L i draw) := by
  have i0 : InB 0 := ⟨by omega, by omega⟩
  have i1 : InB 1 := ⟨by omega, by omega⟩
  have i4 : InB 4 := ⟨by omega, by omega⟩
  have nil : ∀ x ∈ ([] : List Int), InB x := fun x hx => by simp at hx
  unfold lstep
  cases hx : L.procs[i]? with
  | none => exact h
  | some x =>
    have hi : i < L.procs.length := (List.getElem?_eq_some_iff.1 hx).1
    have hxe : L.procs[i] = x := (List.getElem?_eq_some_iff.1 hx).2
    have hq : PB (incPr x.2) := pb_at h hx
    have hn : (incPr x.2).node.toNat < 64 := by have := (hr.rel.node64 i hi).2; rw [hxe] at this; exact this
    have hp := hr.rel.puts64 (incPr x.2).node.toNat
    have hM : VB (L.setP i (incPr x.2)) := h.setP i _ hq
    have hitems : ∀ u, ∀ y ∈ itemsH ((L.setP i (incPr x.2)).hist u), InB y := fun u => items_in (h.hist u)
    simp only
    refine vb_ite (fun _ => ?_) fun _ => vb_ite (fun _ => (hM.hap _ _ _ _ i0 nil).setP _ _ hq) fun _ => vb_ite (fun _ => (hM.hap _ _ _ _ i0 nil).setP _ _ hq) fun _ => vb_ite (fun _ => (hM.hap _ _ _ _ i0 nil).setP _ _ hq) fun _ => vb_ite (fun _ => vb_ite (fun _ => (hM.hap _ _ _ _ i0 nil).setP _ _ ⟨hq.1, num_in hn hp.1 hp.2.1⟩) fun _ => vb_ite (fun _ => (hM.hap _ _ _ _ i0 nil).setP _ _ hq) fun _ => (hM.hap _ _ _ _ i0 nil).setP _ _ hq) fun _ => vb_ite (fun _ => vb_ite (fun _ => (hM.hap _ _ _ _ hq.1 nil).setP _ _ hq) fun _ => hM) fun _ => vb_ite (fun _ => ?_) fun _ => vb_ite (fun _ => vb_ite (fun _ => ?_) fun _ => vb_ite (fun _ => hM.setP _ _ ⟨hq.1, i4⟩) fun _ => ?_) fun _ => hM.setP _ _ (pb_move hM _ hq draw)
    · cases hy : L.procs[(incPr x.2).mind.toNat]? with
      | none => exact hM
      | some y => exact vb_ite (fun _ => (hM.setP _ { y.2 with met := (i : Int) } ⟨(pb_at h hy).1, (pb_at h hy).2⟩).setP _ _ (pb_settled 1 hq (pb_at h hy))) fun _ => hM.setP _ _ hq
    · cases hy : itemH (L.hist (incPr x.2).node.toNat) (incPr x.2).ticket with
      | none => exact hM
      | some y => exact (hM.hap _ _ _ _ i0 nil).setP _ _ ⟨hq.1, item_in (h.hist _) hy⟩
    · exact (((hM.hap _ _ _ _ i0 nil).hap _ _ _ _ i0 (evod_in (hitems _) _).1).hap _ _ _ _ i0 (evod_in (hitems _) _).2).setP _ _ ⟨hq.1, i1⟩
    · exact (((hM.hap _ _ _ _ i0 nil).hap _ _ _ _ i0 nil).hap _ _ _ _ i0 (altF_in _ _ _ (hitems _) (hitems _))).setP _ _ ⟨hq.1, i1⟩

/- What the calls answer. -/
def phaseOf (L : Lay) (i : Nat) : Int := (L.procs.getD i (0, newPr ⟨0, 0, 0⟩)).2.phase
theorem phaseOf_eq (L : Lay) (i : Nat) (hi : i < L.procs.length) : phaseOf L i = (L.procs[i]).2.phase := by
  unfold phaseOf
  rw [List.getD_eq_getElem?_getD, List.getElem?_eq_getElem hi]
  rfl
def okDec (c : Conf) (o : Op3) : Decidable (okOp c o) := by unfold okOp; exact inferInstance
/-- A Spawn: its number, its error, the tree behind it. -/
def spN (c : Conf) (L : Lay) (o : Op3) : Int × Int × Lay :=
  letI := okDec c o; if ¬ okOp c o then (0, 2, L) else if 256 ≤ L.procs.length then (0, 3, L) else if c.procs ≤ (liveL L.procs : Int) then (0, 4, L) else ((L.procs.length : Int), 0, { L with procs := L.procs ++ [(0, newPr o)] })
def stN (L : Lay) (p d : Int) : Int × Int × Lay :=
  if 0 ≤ p ∧ p < L.procs.length ∧ phaseOf L p.toNat ≠ 20 then (phaseOf (lstep L p.toNat d) p.toNat, 0, lstep L p.toNat d) else (0, 5, L)
def rsN (L : Lay) (r d : Int) : Int × Int × Lay :=
  if 0 ≤ r ∧ r ≤ 100 then ((liveL (lrest L (d % 12) r.toNat).procs : Int), 0, lrest L (d % 12) r.toNat) else (0, 6, L)
def prN (L : Lay) (n : Int) : (Int × Int × Int) × Int :=
  if 0 ≤ n ∧ n < L.procs.length then (((L.procs.getD n.toNat (0, newPr ⟨0, 0, 0⟩)).2.phase, (L.procs.getD n.toNat (0, newPr ⟨0, 0, 0⟩)).2.node, (L.procs.getD n.toNat (0, newPr ⟨0, 0, 0⟩)).2.val), 0) else ((0, 0, 0), 5)
theorem procV_prN (L : Lay) (n : Int) : procV L n = .tuple #[.agg #[I (prN L n).1.1, I (prN L n).1.2.1, I (prN L n).1.2.2], I (prN L n).2] := by
  unfold procV prN
  by_cases h : 0 ≤ n ∧ n < L.procs.length
  · rw [if_pos h, if_pos h]
    have hi : n.toNat < L.procs.length := by omega
    simp only [List.getD_eq_getElem?_getD, List.getElem?_eq_getElem hi, Option.getD_some]
  · rw [if_neg h, if_neg h]

def opOf (cm : Cm) : Op3 := if cm.ch = 105 then ⟨0, 0, 0⟩ else if cm.ch = 103 then ⟨2, 0, 0⟩ else if cm.ch = 112 then ⟨1, cm.a, 0⟩ else if cm.ch = 102 then ⟨3, 0, cm.a⟩ else ⟨4, 0, cm.a⟩
/-- A command's answer, and the tree behind it. -/
def ansOf (c : Conf) (L : Lay) (cm : Cm) : List UInt8 × Lay :=
  if cm.ch = 115 then (numT (stN L cm.a cm.b).1 (stN L cm.a cm.b).2.1, (stN L cm.a cm.b).2.2)
  else if cm.ch = 114 then (numT (rsN L cm.a cm.b).1 (rsN L cm.a cm.b).2.1, (rsN L cm.a cm.b).2.2)
  else if cm.ch = 113 then (procT (prN L cm.a).1 (prN L cm.a).2, L)
  else if cm.ch = 108 then (leavesT (rnodes L), L)
  else (numT (spN c L (opOf cm)).1 (spN c L (opOf cm)).2.1, (spN c L (opOf cm)).2.2)
/-- One command more: how many there were, the answers, the tree. -/
def plS (c : Conf) (x : Nat × List UInt8 × Lay) (cm : Cm) : Nat × List UInt8 × Lay :=
  (x.1 + 1, (if x.1 = 0 then x.2.1 else x.2.1 ++ [59]) ++ (ansOf c x.2.2 cm).1, (ansOf c x.2.2 cm).2)
def plA (c : Conf) (L : Lay) (cs : List Cm) : Nat × List UInt8 × Lay := cs.foldl (plS c) (0, [], L)
theorem plA_snoc (c : Conf) (L : Lay) (cs : List Cm) (cm : Cm) : plA c L (cs ++ [cm]) = plS c (plA c L cs) cm := by
  unfold plA
  rw [List.foldl_append]
  rfl
theorem plA_len (c : Conf) (L : Lay) (cs : List Cm) : (plA c L cs).1 = cs.length := by
  have key : ∀ (l : List Cm) (x : Nat × List UInt8 × Lay), (l.foldl (plS c) x).1 = x.1 + l.length := by
    intro l
    induction l with
    | nil => intro x; rfl
    | cons a l ih => intro x; rw [List.foldl_cons, ih]; simp [plS]; omega
  have := key cs (0, [], L)
  simpa [plA] using this

theorem rnodes_ndb {c : Conf} {L : Lay} {P : PLay} (h : VB L) (hr : CRel c L P) : (∀ d ∈ rnodes L, NdB d) ∧ (rnodes L).length ≤ 32 := by
  have hl := hr.rel.lenle
  constructor
  · intro d hd
    unfold rnodes rnodesTo at hd
    obtain ⟨v, hv, hk⟩ := List.mem_filterMap.1 hd
    have hv32 : v < 32 := by simp at hv; omega
    have hp := hr.rel.puts64 v
    split at hk
    · simp at hk
    · simp only [Option.some.injEq] at hk
      rw [← hk]
      unfold rnode
      split
      · exact ⟨⟨by dsimp only; omega, by dsimp only; omega⟩, ⟨by simp, by simp⟩, ⟨by simp, by simp⟩, by simp, by simp⟩
      · exact ⟨⟨by dsimp only; omega, by dsimp only; omega⟩, ⟨by dsimp only; omega, by dsimp only; omega⟩, ⟨by dsimp only; omega, by dsimp only; omega⟩, items_in (h.hist v), hp.2.2.2⟩
  · have := rnodesTo_le L L.past.length
    unfold rnodes
    omega

theorem VB.push {L : Lay} (h : VB L) (o : Op3) (ho : InB o.val) : VB { L with procs := L.procs ++ [(0, newPr o)] } := by
  refine ⟨fun x hx => ?_, h.ev⟩
  rcases List.mem_append.1 hx with hx | hx
  · exact h.pr x hx
  · simp at hx
    rw [hx]
    exact ⟨ho, (⟨by decide, by decide⟩ : InB 0)⟩
theorem vb_round {c : Conf} {L : Lay} {P : PLay} (h : VB L) (hr : CRel c L P) (d : Int) : ∀ k, k ≤ L.procs.length → VB (lroundTo L d k) ∧ ∃ P', CRel c (lroundTo L d k) P'
  | 0, _ => ⟨h, P, hr⟩
  | k + 1, hk => by
    obtain ⟨h1, P1, h2⟩ := vb_round h hr d k (by omega)
    have hlen := lroundTo_len L d k
    unfold lroundTo
    by_cases h20 : ((lroundTo L d k).procs.getD k (0, newPr ⟨0, 0, 0⟩)).2.phase = 20
    · rw [if_pos h20]; exact ⟨h1, P1, h2⟩
    · rw [if_neg h20]
      have hi : k < (lroundTo L d k).procs.length := by omega
      rw [List.getD_eq_getElem?_getD, List.getElem?_eq_getElem hi] at h20
      obtain ⟨_, _, _, P2, h3⟩ := h2.next (B := 0) hi h20 (d + k)
      exact ⟨vb_step h1 h2 k _, P2, h3⟩
theorem vb_rest {c : Conf} {L : Lay} {P : PLay} (h : VB L) (hr : CRel c L P) (m : Int) : ∀ r, VB (lrest L m r) ∧ ∃ P', CRel c (lrest L m r) P'
  | 0 => ⟨h, P, hr⟩
  | r + 1 => by
    obtain ⟨h1, P1, h2⟩ := vb_rest h hr m r
    unfold lrest
    exact vb_round h1 h2 _ _ (by rw [lrest_len]; exact Nat.le_refl _)

end Go.Proofs.YtjnmpejcegmkhabDoor

namespace Go.Proofs.YtjnmpejcegmkhabDoor
open Go.RowKit

/-- The library's table lies where it lay. -/
abbrev Tab (w : World) : Prop := Lib.TabIs Tryd.prog w "internal/strconv.uint64pow10" .u64 Lib.pow10Tab
theorem Tab.below {w w' : World} (h : Tab w) (hb : Below w.heap.size w w') : Tab w' := Lib.tabBelow_of_tabIs h w' hb
/-- Bytes as a text. -/
abbrev S (l : List UInt8) : Value := .string ⟨l.toArray⟩
theorem itoa_c (n : Int) (h0 : -9223372036854775808 ≤ n) (h1 : n ≤ 9223372036854775807) {w : World} (h : Tab w) :
    Calls Tryd.prog 11 #[.int .i64 n] w fun e w' => e = .returned (S (Lib.itoa n)) ∧ Below w.heap.size w w' := by
  refine (Tryd.strconv_Itoa n h0 h1 w h).mono ?_
  rintro e w' ⟨rfl, k, os, rfl⟩
  exact ⟨rfl, Lib.below_grow _ _ (Nat.le_refl _) _ _⟩

end Go.Proofs.YtjnmpejcegmkhabDoor

namespace Go.Proofs.YtjnmpejcegmkhabDoor
open Go.RowKit

/-- The library's table lies below B, as it lay. -/
def TabB (B : Nat) (w : World) : Prop := ∃ w0, Tab w0 ∧ w0.heap.size ≤ B ∧ Below w0.heap.size w0 w
theorem TabB.tab {B : Nat} {w : World} (h : TabB B w) : Tab w := by
  obtain ⟨w0, h1, _, h3⟩ := h
  exact h1.below h3
theorem TabB.below {B : Nat} {w w' : World} (h : TabB B w) (hb : Below w.heap.size w w') : TabB B w' := by
  obtain ⟨w0, h1, h2, h3⟩ := h
  exact ⟨w0, h1, h2, h3.trans (hb.mono h3.size)⟩
theorem TabB.chg {B : Nat} {w w' : World} (h : TabB B w) (hb : Below B w w') : TabB B w' := by
  obtain ⟨w0, h1, h2, h3⟩ := h
  exact ⟨w0, h1, h2, h3.trans (hb.mono h2)⟩

structure TSt (w : World) (B : Nat) (c : Conf) (L : Lay) (P : PLay) : Prop where
  prog : PRep w B P
  rel : CRel c L P
  vb : VB L
  hB : B ≤ w.heap.size
  tab : TabB B w
theorem TSt.below {w w' : World} {B : Nat} {c : Conf} {L : Lay} {P : PLay} (h : TSt w B c L P) (hb : Below w.heap.size w w') : TSt w' B c L P :=
  ⟨h.prog.below hb, h.rel, h.vb, Nat.le_trans h.hB hb.size, h.tab.below hb⟩

abbrev TT : List TypeId := [77, 83, 121]
/-- The tree P.tb goes on as L'. -/
def TRet (B : Nat) (c : Conf) (P : PLay) (L' : Lay) (w w' : World) : Prop := (∃ P', P'.tb = P.tb ∧ TSt w' B c L' P') ∧ ChgT B TT w w'
theorem TRet.same {w w' : World} {B : Nat} {c : Conf} {L : Lay} {P : PLay} (h : TSt w B c L P) (hb : Below w.heap.size w w') : TRet B c P L w w' :=
  ⟨⟨P, rfl, h.below hb⟩, ChgT.of_below hb⟩
theorem TRet.then {w w' w'' : World} {B : Nat} {c : Conf} {L' : Lay} {P : PLay} (h : TRet B c P L' w w') (hb : Below w'.heap.size w' w'') : TRet B c P L' w w'' := by
  obtain ⟨⟨P', e, h1⟩, h2⟩ := h
  exact ⟨⟨P', e, h1.below hb⟩, h2.trans (ChgT.of_below hb)⟩
theorem TRet.before {w w' w'' : World} {B : Nat} {c : Conf} {L' : Lay} {P : PLay} (hb : Below w.heap.size w w') (h : TRet B c P L' w' w'') : TRet B c P L' w w'' :=
  ⟨h.1, (ChgT.of_below hb).trans h.2⟩
theorem TRet.tab {w w' : World} {B : Nat} {c : Conf} {L' : Lay} {P : PLay} (h : TRet B c P L' w w') : Tab w' := by
  obtain ⟨⟨P', e, h1⟩, h2⟩ := h
  exact h1.tab.tab

theorem tspawn_c {w : World} {B : Nat} {c : Conf} {L : Lay} {P : PLay} (h : TSt w B c L P) (o : Op3) (ho : InB o.val) :
    Calls Tryd.prog 20 #[.pointer (some ⟨P.tb, 0, none⟩), opV o] w fun e w' => e = .returned (.tuple #[I (spN c L o).1, I (spN c L o).2.1]) ∧ TRet B c P (spN c L o).2.2 w w' := by
  have d0 : 0 ≤ P.c.depth ∧ P.c.depth ≤ 4 := by
    have := h.rel.rel.confs
    rw [h.rel.rel.cP]
    omega
  have lvP : pliveL P.procs = liveL L.procs := plive_w h.rel.rel
  have hpl := h.rel.plen
  have cP := h.rel.rel.cP
  have np := h.rel.rel.np
  unfold spN
  by_cases h1 : okOp c o
  · have okP : okOp P.c o := by rw [cP]; exact h1
    rw [if_neg (by simpa using h1)]
    by_cases h2 : 256 ≤ L.procs.length
    · rw [if_pos h2]
      refine (pspawn_err3 h.prog o okP d0.1 d0.2 (by omega)).mono ?_
      rintro e w' ⟨rfl, hb⟩
      exact ⟨rfl, TRet.same h hb⟩
    · rw [if_neg h2]
      by_cases h3 : c.procs ≤ (liveL L.procs : Int)
      · rw [if_pos h3]
        refine (pspawn_err4 h.prog o okP d0.1 d0.2 (by omega) (by rw [lvP, cP]; exact h3)).mono ?_
        rintro e w' ⟨rfl, hb⟩
        exact ⟨rfl, TRet.same h hb⟩
      · rw [if_neg h3]
        refine (pspawn_yes h.prog h.hB o okP d0.1 d0.2 (by omega) (by rw [lvP, cP]; omega)).mono ?_
        rintro e w' ⟨rfl, ⟨x, hp⟩, hc⟩
        have hc' : ChgT B TT w w' := hc.mono (Nat.le_refl _) (by simp)
        refine ⟨by rw [hpl], ⟨_, ?_, hp, ?_, h.vb.push o ho, Nat.le_trans h.hB hc.size, h.tab.chg (hc.below h.hB)⟩, hc'⟩
        · rfl
        · exact h.rel.push o h1 0 L.pv x (by omega) (by omega)
  · rw [if_pos (by simpa using h1)]
    refine (pspawn_err2 h.prog o (by rw [cP]; exact h1) d0.1 d0.2).mono ?_
    rintro e w' ⟨rfl, hb⟩
    exact ⟨rfl, TRet.same h hb⟩

set_option maxHeartbeats 4000000 in
/-- Step is step, and the phase that comes of it. -/
theorem tStep_ret {B : Nat} {P : PLay} {i : Nat} (hi : i < P.procs.length) (hl : (P.procs[i]).phase ≠ 20) (draw : Int) {F : PLay → Prop} (hF : ∀ P', F P' → P'.tb = P.tb ∧ P'.procs.length = P.procs.length)
    (hs : ∀ W, PRep W B P → B ≤ W.heap.size → Calls Tryd.prog 27 #[.pointer (some ⟨P.tb, 0, none⟩), I i, I draw] W fun e w' => e = .returned (.tuple #[]) ∧ (∃ P', F P' ∧ PRep w' B P') ∧ ChgT B [77, 83, 121] W w')
    {W : World} (h : PRep W B P) (hB : B ≤ W.heap.size) :
    Calls Tryd.prog 17 #[.pointer (some ⟨P.tb, 0, none⟩), I i, I draw] W fun e w' => (∃ P', e = .returned (.tuple #[I (P'.procs.getD i zeroPP).phase, I 0]) ∧ F P' ∧ PRep w' B P') ∧ ChgT B [77, 83, 121] W w' := by
  have HF : Hid (∀ w' P', F P' → PRep w' B P' → ∃ g cap, w'.cell? ⟨g, i * 11 + 3, none⟩ = some (I (P'.procs.getD i zeroPP).phase) ∧ w'.cell? ⟨P.tb, 680, none⟩ = some (.slice (some ⟨g, 0, none⟩) P.procs.length cap) ∧ P.procs.length ≤ cap ∧ P.procs.length ≤ 2 ^ 63 - 1 ∧ cap ≤ 2 ^ 63 - 1) := by
    intro w' P' hf hp
    obtain ⟨e1, e2⟩ := hF P' hf
    obtain ⟨ao, cap, k1, k2, k3, k4, k5⟩ := hp.pp_at
    have hi' : i < P'.procs.length := by omega
    obtain ⟨g, rfl, hg⟩ := k5 i hi'
    have hp1 := hp.pcell
    rw [e1, k1, e2] at hp1
    rw [e2] at k2 k3
    have hd : P'.procs.getD i zeroPP = P'.procs[i] := by simp [List.getD_eq_getElem?_getD, List.getElem?_eq_getElem hi']
    refine ⟨g, cap, ?_, hp1, k2, k3, k4⟩
    rw [hg 3 (by omega), hd]
    rfl
  obtain ⟨ao, cap, k1, k2, k3, k4, k5⟩ := h.pp_at
  obtain ⟨g, rfl, hg⟩ := k5 i hi
  have p1 := h.pcell
  rw [k1] at p1
  have c3 : W.cell? ⟨g, i * 11 + 3, none⟩ = some (I (P.procs[i]).phase) := by rw [hg 3 (by omega)]; rfl
  have b1 : ((P.procs[i]).phase == 20) = false := by simp [hl]
  have hi0 : decide ((i : Int) < 0) = false := by simp
  have hil : (i : Int) < (P.procs.length : Int) := by omega
  unfold maxLen at k3 k4
  have hc := hs W h hB
  replace hc : Hid _ := hc
  generalize (P.procs[i]).phase = ph0 at *
  clear h hs hF k5 hg k1 hl
  generalize P.procs.length = np at *
  go_enter Tryd.func17, Tryd.ntmps17
  go_wp2_with fail
  refine Calls.mono hc.out ?_
  rintro e w1 ⟨rfl, ⟨P', hf, hp⟩, hch⟩
  obtain ⟨g', cap', e3, e680, e1, e2, e4⟩ := HF.out _ _ hf hp
  clear hc HF c3 p1
  replace hf : Hid _ := hf
  replace hp : Hid _ := hp
  replace hch : Hid _ := hch
  go_wp2
  go_ret2
  exact ⟨⟨P', rfl, hf.out, hp.out⟩, hch.out⟩

theorem tstep_c {w : World} {B : Nat} {c : Conf} {L : Lay} {P : PLay} (h : TSt w B c L P) (p draw : Int) :
    Calls Tryd.prog 17 #[.pointer (some ⟨P.tb, 0, none⟩), I p, I draw] w fun e w' => e = .returned (.tuple #[I (stN L p draw).1, I (stN L p draw).2.1]) ∧ TRet B c P (stN L p draw).2.2 w w' := by
  have hpl := h.rel.plen
  unfold stN
  by_cases hin : 0 ≤ p ∧ p < L.procs.length
  · obtain ⟨i, rfl⟩ := Int.eq_ofNat_of_zero_le hin.1
    have hi : i < L.procs.length := by omega
    have hiP : i < P.procs.length := by omega
    have hpp : P.procs[i] = toPP (L.procs[i]).2 := by simp [h.rel.rel.procs]
    by_cases h20 : (L.procs[i]).2.phase = 20
    · rw [if_neg (by rintro ⟨_, _, x⟩; rw [Int.toNat_natCast, phaseOf_eq L i hi] at x; exact x h20)]
      have hv0 : 0 < P.nodes.length := by rw [h.rel.rel.plen]; omega
      obtain ⟨g, hf⟩ := PF.start h.prog hv0 hiP
      refine (pStep_done hf (by rw [hpp]; exact h20) draw).mono ?_
      rintro e w' ⟨rfl, hb⟩
      exact ⟨rfl, TRet.same h hb⟩
    · rw [if_pos ⟨hin.1, hin.2, by rw [Int.toNat_natCast, phaseOf_eq L i hi]; exact h20⟩, Int.toNat_natCast]
      obtain ⟨ph, hps, _, _⟩ := h.rel.next (B := B) hi h20 draw
      refine (tStep_ret hiP (by rw [hpp]; exact h20) draw (F := fun P' => P'.tb = P.tb ∧ CRel c (lstep L i draw) P') (fun P' hP => ⟨hP.1, by rw [hP.2.plen, lstep_len, hpl]⟩) hps.1 h.prog h.hB).mono ?_
      rintro e w' ⟨⟨P', rfl, ⟨e1, e2⟩, hp⟩, hc⟩
      refine ⟨?_, ⟨P', e1, hp, e2, vb_step h.vb h.rel i draw, Nat.le_trans h.hB hc.size, h.tab.chg (hc.below h.hB)⟩, hc⟩
      have hi2 : i < (lstep L i draw).procs.length := by rw [lstep_len]; exact hi
      have hi3 : i < P'.procs.length := by rw [e2.plen]; exact hi2
      rw [phaseOf_eq _ i hi2, List.getD_eq_getElem?_getD, List.getElem?_eq_getElem hi3, Option.getD_some, e2.pphase i hi2 hi3]
  · rw [if_neg (fun x => hin ⟨x.1, x.2.1⟩)]
    refine (pStep_none h.prog p (by omega) draw).mono ?_
    rintro e w' ⟨rfl, hb⟩
    exact ⟨rfl, TRet.same h hb⟩

theorem trest_c {w : World} {B : Nat} {c : Conf} {L : Lay} {P : PLay} (h : TSt w B c L P) (r draw : Int) :
    Calls Tryd.prog 18 #[.pointer (some ⟨P.tb, 0, none⟩), I r, I draw] w fun e w' => e = .returned (.tuple #[I (rsN L r draw).1, I (rsN L r draw).2.1]) ∧ TRet B c P (rsN L r draw).2.2 w w' := by
  unfold rsN
  by_cases hin : 0 ≤ r ∧ r ≤ 100
  · rw [if_pos hin]
    obtain ⟨k, rfl⟩ := Int.eq_ofNat_of_zero_le hin.1
    rw [Int.toNat_natCast]
    refine (prest_ok h.rel h.prog h.hB k (by omega) draw).mono ?_
    rintro e w' ⟨rfl, ⟨P', e1, e2, hp⟩, hc⟩
    exact ⟨rfl, ⟨P', e1, hp, e2, (vb_rest h.vb h.rel _ k).1, Nat.le_trans h.hB hc.size, h.tab.chg (hc.below h.hB)⟩, hc⟩
  · rw [if_neg hin]
    refine (prest_err P.tb r draw (by omega)).mono ?_
    rintro e w' ⟨rfl, rfl⟩
    exact ⟨rfl, TRet.same h (Below.refl _ _)⟩

theorem tproc_c {w : World} {B : Nat} {c : Conf} {L : Lay} {P : PLay} (h : TSt w B c L P) (p : Int) :
    Calls Tryd.prog 15 #[.pointer (some ⟨P.tb, 0, none⟩), I p] w fun e w' => e = .returned (.tuple #[.agg #[I (prN L p).1.1, I (prN L p).1.2.1, I (prN L p).1.2.2], I (prN L p).2]) ∧ Below w.heap.size w w' := by
  rw [← procV_prN]
  exact (h.rel.rel.agree h.rel.ck.si h.prog).proc w (Below.refl _ _) p
theorem tnodes_c {w : World} {B : Nat} {c : Conf} {L : Lay} {P : PLay} (h : TSt w B c L P) :
    Calls Tryd.prog 13 #[.pointer (some ⟨P.tb, 0, none⟩)] w fun e w' => ∃ x l, e = .returned x ∧ NodesRep w' w.heap.size x l ∧ l.map (fun y => y.1) = rnodes L ∧ Below w.heap.size w w' :=
  (h.rel.rel.agree h.rel.ck.si h.prog).nodes w (Below.refl _ _)

/- The numbers that are told. -/
theorem inbN {k : Int} (h0 : 0 ≤ k) (h1 : k ≤ 1000) : InB k := ⟨by omega, by omega⟩
theorem spN_in {c : Conf} {L : Lay} {P : PLay} (h : CRel c L P) (o : Op3) : InB (spN c L o).1 ∧ InB (spN c L o).2.1 := by
  have := h.rel.np
  unfold spN
  split
  · exact ⟨inbN (k := 0) (by omega) (by omega), inbN (k := 2) (by omega) (by omega)⟩
  · split
    · exact ⟨inbN (k := 0) (by omega) (by omega), inbN (k := 3) (by omega) (by omega)⟩
    · split
      · exact ⟨inbN (k := 0) (by omega) (by omega), inbN (k := 4) (by omega) (by omega)⟩
      · exact ⟨inbN (k := (L.procs.length : Int)) (by omega) (by omega), inbN (k := 0) (by omega) (by omega)⟩
theorem phase_in {c : Conf} {L : Lay} {P : PLay} (h : CRel c L P) (i : Nat) : InB (phaseOf L i) := by
  by_cases hi : i < L.procs.length
  · rw [phaseOf_eq L i hi]
    have := (h.rel.qs i hi).phase
    exact inbN (by omega) (by omega)
  · unfold phaseOf
    rw [List.getD_eq_getElem?_getD, List.getElem?_eq_none (by omega)]
    exact inbN (k := 0) (by omega) (by omega)
theorem stN_in {c : Conf} {L : Lay} {P : PLay} (h : CRel c L P) (p d : Int) : InB (stN L p d).1 ∧ InB (stN L p d).2.1 := by
  unfold stN
  split
  · rename_i hc
    refine ⟨?_, inbN (k := 0) (by omega) (by omega)⟩
    have hi : p.toNat < L.procs.length := by omega
    have h20 := hc.2.2
    rw [phaseOf_eq L _ hi] at h20
    obtain ⟨_, _, _, P', h'⟩ := h.next (B := 0) hi h20 d
    exact phase_in h' _
  · exact ⟨inbN (k := 0) (by omega) (by omega), inbN (k := 5) (by omega) (by omega)⟩
theorem rsN_in {c : Conf} {L : Lay} {P : PLay} (h : CRel c L P) (p d : Int) : InB (rsN L p d).1 ∧ InB (rsN L p d).2.1 := by
  have np := h.rel.np
  unfold rsN
  split
  · have h1 := liveL_le (lrest L (d % 12) p.toNat).procs
    rw [lrest_len] at h1
    exact ⟨inbN (k := (liveL (lrest L (d % 12) p.toNat).procs : Int)) (by omega) (by omega), inbN (k := 0) (by omega) (by omega)⟩
  · exact ⟨inbN (k := 0) (by omega) (by omega), inbN (k := 6) (by omega) (by omega)⟩
theorem prN_in {c : Conf} {L : Lay} {P : PLay} (hv : VB L) (h : CRel c L P) (p : Int) : InB (prN L p).1.1 ∧ InB (prN L p).1.2.1 ∧ InB (prN L p).1.2.2 ∧ InB (prN L p).2 := by
  unfold prN
  split
  · have hi : p.toNat < L.procs.length := by omega
    have h1 := phase_in h p.toNat
    rw [phaseOf_eq L _ hi] at h1
    have h2 := h.rel.node64 _ hi
    obtain ⟨h2, h3⟩ := h2
    have h4 := hv.pr _ (List.getElem_mem hi)
    rw [List.getD_eq_getElem?_getD, List.getElem?_eq_getElem hi, Option.getD_some]
    exact ⟨h1, inbN (k := (L.procs[p.toNat]).2.node) (by omega) (by omega), h4.2, inbN (k := 0) (by omega) (by omega)⟩
  · exact ⟨inbN (k := 0) (by omega) (by omega), inbN (k := 0) (by omega) (by omega), inbN (k := 0) (by omega) (by omega), inbN (k := 5) (by omega) (by omega)⟩
theorem numT_len {n e : Int} (hn : InB n) (he : InB e) : (numT n e).length ≤ 21 := by
  have h1 := hn.len
  have h2 := he.len
  unfold numT
  split
  · omega
  · simp; omega
theorem procT_len {p : Int × Int × Int} {e : Int} (h1 : InB p.1) (h2 : InB p.2.1) (h3 : InB p.2.2) (he : InB e) : (procT p e).length ≤ 62 := by
  have a1 := h1.len
  have a2 := h2.len
  have a3 := h3.len
  have a4 := he.len
  unfold procT
  split <;> simp <;> omega
/-- No answer is long. -/
theorem ans_len {c : Conf} {L : Lay} {P : PLay} (hv : VB L) (h : CRel c L P) (cm : Cm) : (ansOf c L cm).1.length ≤ 10000000 := by
  unfold ansOf
  split
  · have := numT_len (stN_in h cm.a cm.b).1 (stN_in h cm.a cm.b).2; simp only; omega
  · split
    · have := numT_len (rsN_in h cm.a cm.b).1 (rsN_in h cm.a cm.b).2; simp only; omega
    · split
      · obtain ⟨a, b, d, e⟩ := prN_in hv h cm.a
        have := procT_len a b d e; simp only; omega
      · split
        · obtain ⟨a, b⟩ := rnodes_ndb hv h
          have := leaves_len [] a
          simp only [leavesT, List.length_nil] at this ⊢
          omega
        · have := numT_len (spN_in h (opOf cm)).1 (spN_in h (opOf cm)).2; simp only; omega

end Go.Proofs.YtjnmpejcegmkhabDoor

namespace Go.Proofs.YtjnmpejcegmkhabDoor
open Go.RowKit

/-- Numbers that Go's int holds. -/
def I6 (x : Int) : Prop := -9223372036854775808 ≤ x ∧ x ≤ 9223372036854775807
theorem InB.i6 {x : Int} (h : InB x) : I6 x := by obtain ⟨a, b⟩ := h; exact ⟨by omega, by omega⟩
theorem I6.len {x : Int} (h : I6 x) : (Lib.itoa x).length ≤ 20 := itoa_len x h.1 h.2
theorem S_app (a b : List UInt8) : (⟨a.toArray⟩ : ByteArray) ++ ⟨b.toArray⟩ = ⟨(a ++ b).toArray⟩ := by
  apply ByteArray.ext
  simp

set_option maxHeartbeats 2000000 in
theorem errorText_c (e : Int) (he : I6 e) {w : World} (h : Tab w) : Calls Tryd.prog 53 #[I e] w fun x w' => x = .returned (S (33 :: Lib.itoa e)) ∧ Below w.heap.size w w' := by
  have h1 := itoa_c e he.1 he.2 h
  replace h1 : Hid _ := h1
  have hl := he.len
  have hSA := S_app
  generalize Lib.itoa e = l at *
  clear he
  go_enter Tryd.func53, Tryd.ntmps53
  go_wp2_with fail
  refine Calls.mono h1.out ?_
  rintro x w1 ⟨rfl, hb⟩
  go_wp2
  go_ret
  exact ⟨rfl, hb⟩

set_option maxHeartbeats 2000000 in
theorem numberText_c (n e : Int) (hn : I6 n) (he : I6 e) {w : World} (h : Tab w) : Calls Tryd.prog 36 #[I n, I e] w fun x w' => x = .returned (S (numT n e)) ∧ Below w.heap.size w w' := by
  unfold numT
  by_cases h0 : e = 0
  · rw [if_pos h0]
    subst h0
    have h1 := itoa_c n hn.1 hn.2 h
    replace h1 : Hid _ := h1
    generalize Lib.itoa n = l at *
    clear hn he
    go_enter Tryd.func36, Tryd.ntmps36
    go_wp2_with fail
    refine Calls.mono h1.out ?_
    rintro x w1 ⟨rfl, hb⟩
    go_wp2
    go_ret
    exact ⟨rfl, hb⟩
  · rw [if_neg h0]
    have h1 := errorText_c e he h
    replace h1 : Hid _ := h1
    have b0 : (e != 0) = true := by simpa using h0
    generalize (33 :: Lib.itoa e) = l at *
    clear hn he
    go_enter Tryd.func36, Tryd.ntmps36
    go_wp2_with fail
    refine Calls.mono h1.out ?_
    rintro x w1 ⟨rfl, hb⟩
    go_wp2
    go_ret
    exact ⟨rfl, hb⟩

/-- A box that a call made for an argument: it stands, and the table lies. -/
structure BoxAt (w : World) (arr : Array Value) (T : TypeId) (W : World) : Prop where
  blk : W.heap[w.heap.size]? = some (.cells arr T (0, 0))
  below : Below w.heap.size w W
  tab : Tab W
theorem BoxAt.go {w : World} {arr : Array Value} {T : TypeId} {W W' : World} (h : BoxAt w arr T W) (hb : Below W.heap.size W W') : BoxAt w arr T W' :=
  ⟨(hb.block _ (Array.getElem?_eq_some_iff.1 h.blk).1).trans h.blk, h.below.trans (hb.mono h.below.size), h.tab.below hb⟩
theorem BoxAt.drew {w : World} {arr : Array Value} {T : TypeId} {W : World} (h : BoxAt w arr T W) : BoxAt w arr T W.drew :=
  h.go (Below.drewN' (Below.refl _ _) 1)
theorem BoxAt.new {w : World} (h : Tab w) (arr : Array Value) (T : TypeId) : BoxAt w arr T (w.alloc (.cells arr T)) :=
  ⟨nb_alloc _ _ _, (Below.refl _ _).alloc (Nat.le_refl _) _, h.below ((Below.refl _ _).alloc (Nat.le_refl _) _)⟩
theorem BoxAt.itoa {w : World} {arr : Array Value} {T : TypeId} {W : World} (h : BoxAt w arr T W) (n : Int) (hn : I6 n) : Calls Tryd.prog 11 #[.int .i64 n] W fun e w' => e = .returned (S (Lib.itoa n)) ∧ BoxAt w arr T w' := by
  refine (itoa_c n hn.1 hn.2 h.tab).mono ?_
  rintro e w' ⟨rfl, hb⟩
  exact ⟨rfl, h.go hb⟩

end Go.Proofs.YtjnmpejcegmkhabDoor

namespace Go.Proofs.YtjnmpejcegmkhabDoor
open Go.RowKit

theorem within_c (v lo hi : Int) (w : World) : Calls Tryd.prog 10 #[I v, I lo, I hi] w fun e w' => e = .returned (.bool (decide (lo ≤ v ∧ v ≤ hi))) ∧ w' = w := by
  by_cases h1 : lo ≤ v
  · by_cases h2 : v ≤ hi
    · have HE : Hid (decide (lo ≤ v ∧ v ≤ hi) = true) := by show _ = _; simp [h1, h2]
      rw [HE.out]
      go_enter Tryd.func10, Tryd.ntmps10
      go_wp2
      go_ret
      exact ⟨rfl, rfl⟩
    · have HE : Hid (decide (lo ≤ v ∧ v ≤ hi) = false) := by show _ = _; simp [h2]
      have hd : decide (v ≤ hi) = false := by simp; omega
      rw [HE.out]
      go_enter Tryd.func10, Tryd.ntmps10
      go_wp2
      go_ret
      exact ⟨rfl, rfl⟩
  · have HE : Hid (decide (lo ≤ v ∧ v ≤ hi) = false) := by show _ = _; simp [h1]
    have hd : decide (lo ≤ v) = false := by simp; omega
    rw [HE.out]
    go_enter Tryd.func10, Tryd.ntmps10
    go_wp2
    go_ret
    exact ⟨rfl, rfl⟩

set_option maxHeartbeats 4000000 in
theorem good_c (c : Conf) (w : World) : Calls Tryd.prog 9 #[confV c] w fun e w' => e = .returned (.bool (mayC c)) ∧ Below w.heap.size w w' := by
  have HW : Hid (∀ v lo hi W, Calls Tryd.prog 10 #[I v, I lo, I hi] W fun e w' => e = .returned (.bool (decide (lo ≤ v ∧ v ≤ hi))) ∧ w' = W) := fun v lo hi W => within_c v lo hi W
  have HM : Hid (∀ b : Bool, (b = true ↔ ((c.kind = 0 ∨ c.kind = 1) ∧ 0 ≤ c.depth ∧ c.depth ≤ 4 ∧ 0 ≤ c.start ∧ c.start ≤ c.depth ∧ 1 ≤ c.slots ∧ c.slots ≤ 4 ∧ 1 ≤ c.width ∧ c.width ≤ 4 ∧ 0 ≤ c.spin ∧ c.spin ≤ 8 ∧ 0 ≤ c.drain ∧ c.drain ≤ 16 ∧ 1 ≤ c.procs ∧ c.procs ≤ 16)) → b = mayC c) := fun b h => mayC_mk h
  unfold confV
  generalize mayC c = M at *
  obtain ⟨kind, depth, start, slots, width, spin, drain, procs⟩ := c
  simp only at *
  go_enter Tryd.func9, Tryd.ntmps9
  go_wp2_with fail
  refine Calls.mono (HW.out _ _ _ _) ?_
  rintro e w0 ⟨rfl, rfl⟩
  by_cases h0 : 0 ≤ kind ∧ kind ≤ 1
  · rw [decide_eq_true h0]
    go_wp2_with fail
    refine Calls.mono (HW.out _ _ _ _) ?_
    rintro e w1 ⟨rfl, rfl⟩
    by_cases h1 : 0 ≤ depth ∧ depth ≤ 4
    · rw [decide_eq_true h1]
      go_wp2_with fail
      refine Calls.mono (HW.out _ _ _ _) ?_
      rintro e w2 ⟨rfl, rfl⟩
      by_cases h2 : 0 ≤ start ∧ start ≤ depth
      · rw [decide_eq_true h2]
        go_wp2_with fail
        refine Calls.mono (HW.out _ _ _ _) ?_
        rintro e w3 ⟨rfl, rfl⟩
        by_cases h3 : 1 ≤ slots ∧ slots ≤ 4
        · rw [decide_eq_true h3]
          go_wp2_with fail
          refine Calls.mono (HW.out _ _ _ _) ?_
          rintro e w4 ⟨rfl, rfl⟩
          by_cases h4 : 1 ≤ width ∧ width ≤ 4
          · rw [decide_eq_true h4]
            go_wp2_with fail
            refine Calls.mono (HW.out _ _ _ _) ?_
            rintro e w5 ⟨rfl, rfl⟩
            by_cases h5 : 0 ≤ spin ∧ spin ≤ 8
            · rw [decide_eq_true h5]
              go_wp2_with fail
              refine Calls.mono (HW.out _ _ _ _) ?_
              rintro e w6 ⟨rfl, rfl⟩
              by_cases h6 : 0 ≤ drain ∧ drain ≤ 16
              · rw [decide_eq_true h6]
                go_wp2_with fail
                refine Calls.mono (HW.out _ _ _ _) ?_
                rintro e w7 ⟨rfl, rfl⟩
                by_cases h7 : 1 ≤ procs ∧ procs ≤ 16
                · rw [decide_eq_true h7]
                  go_wp2
                  go_ret
                  exact ⟨ret_bool (HM.out _ (by simp; omega)), (Below.refl _ _).alloc (Nat.le_refl _) _⟩
                · rw [decide_eq_false h7]
                  go_wp2
                  go_ret
                  exact ⟨ret_bool (HM.out _ (by simp; omega)), (Below.refl _ _).alloc (Nat.le_refl _) _⟩
              · rw [decide_eq_false h6]
                go_wp2
                go_ret
                exact ⟨ret_bool (HM.out _ (by simp; omega)), (Below.refl _ _).alloc (Nat.le_refl _) _⟩
            · rw [decide_eq_false h5]
              go_wp2
              go_ret
              exact ⟨ret_bool (HM.out _ (by simp; omega)), (Below.refl _ _).alloc (Nat.le_refl _) _⟩
          · rw [decide_eq_false h4]
            go_wp2
            go_ret
            exact ⟨ret_bool (HM.out _ (by simp; omega)), (Below.refl _ _).alloc (Nat.le_refl _) _⟩
        · rw [decide_eq_false h3]
          go_wp2
          go_ret
          exact ⟨ret_bool (HM.out _ (by simp; omega)), (Below.refl _ _).alloc (Nat.le_refl _) _⟩
      · rw [decide_eq_false h2]
        go_wp2
        go_ret
        exact ⟨ret_bool (HM.out _ (by simp; omega)), (Below.refl _ _).alloc (Nat.le_refl _) _⟩
    · rw [decide_eq_false h1]
      go_wp2
      go_ret
      exact ⟨ret_bool (HM.out _ (by simp; omega)), (Below.refl _ _).alloc (Nat.le_refl _) _⟩
  · rw [decide_eq_false h0]
    go_wp2
    go_ret
    exact ⟨ret_bool (HM.out _ (by simp; omega)), (Below.refl _ _).alloc (Nat.le_refl _) _⟩

end Go.Proofs.YtjnmpejcegmkhabDoor

namespace Go.Proofs.YtjnmpejcegmkhabDoor
open Go.RowKit

set_option maxHeartbeats 2000000 in
theorem knumber_c (n e : Int) (hn : I6 n) (he : I6 e) {w : World} (h : Tab w) : Calls Tryd.prog 16 #[I n, I e] w fun x w' => x = .returned (S (numT n e)) ∧ Below w.heap.size w w' := by
  unfold numT
  by_cases h0 : e = 0
  · rw [if_pos h0]
    subst h0
    have h1 := itoa_c n hn.1 hn.2 h
    replace h1 : Hid _ := h1
    generalize Lib.itoa n = l at *
    clear hn he
    go_enter Tryd.func16, Tryd.ntmps16
    go_wp2_with fail
    refine Calls.mono h1.out ?_
    rintro x w1 ⟨rfl, hb⟩
    go_wp2
    go_ret
    exact ⟨rfl, hb⟩
  · rw [if_neg h0]
    have h1 := itoa_c e he.1 he.2 h
    replace h1 : Hid _ := h1
    have hl := he.len
    have hSA := S_app
    have b0 : (e == 0) = false := by simpa using h0
    generalize Lib.itoa e = l at *
    clear hn he
    go_enter Tryd.func16, Tryd.ntmps16
    go_wp2_with fail
    refine Calls.mono h1.out ?_
    rintro x w1 ⟨rfl, hb⟩
    go_wp2
    go_ret
    exact ⟨rfl, hb⟩

set_option maxHeartbeats 2000000 in
theorem kfits_c (n : Int) (w : World) : Calls Tryd.prog 12 #[I n] w fun x w' => x = .returned (.bool (fitsN n)) ∧ w' = w := by
  have h1 := within_c n 0 999999 w
  have e : decide (0 ≤ n ∧ n ≤ 999999) = fitsN n := by unfold fitsN; simp
  rw [e] at h1
  replace h1 : Hid _ := h1
  generalize fitsN n = b at *
  clear e
  go_enter Tryd.func12, Tryd.ntmps12
  go_wp2_with fail
  refine Calls.mono h1.out ?_
  rintro x w1 ⟨rfl, rfl⟩
  go_wp2
  go_ret
  exact ⟨rfl, rfl⟩

end Go.Proofs.YtjnmpejcegmkhabDoor

namespace Go.Proofs.YtjnmpejcegmkhabDoor
open Go.RowKit

abbrev O3 := Int × Int × Int
abbrev txO (o : O3) : List UInt8 := txOf o.1 o.2.1 o.2.2
abbrev cmO (o : O3) : Cm := cmOf o.1 o.2.1 o.2.2

theorem fits_len {a : Int} (h : fitsN a = true) : (Lib.itoa a).length ≤ 6 := by
  simp [fitsN] at h
  obtain ⟨n, rfl⟩ := Int.eq_ofNat_of_zero_le h.1
  rw [Lib.itoa_nonneg]
  exact dec_len n (by omega)
theorem tx_len (k a b : Int) : (txOf k a b).length ≤ 15 := by
  unfold txOf
  split
  · simp
  split
  · simp
  split
  · simp
  split
  · rename_i h
    have := itoa_len a (by omega) (by omega)
    have h7 : (Lib.itoa a).length ≤ 7 := by
      by_cases h0 : a < 0
      · obtain ⟨n, hn⟩ := Int.eq_ofNat_of_zero_le (show 0 ≤ -a by omega)
        have e : a = -(n : Int) := by omega
        subst e
        rw [Lib.itoa_neg n (by omega)]
        have := dec_len n (by omega)
        simp
        omega
      · have := fits_len (a := a) (by simp [fitsN]; omega)
        omega
    simp
    omega
  split
  · simp
  rename_i h4 h5
  have ha := fits_len (a := a) (by simpa using h5)
  split
  · simp; omega
  split
  · simp; omega
  split
  · simp; omega
  split
  · simp
  rename_i h9
  have hb := fits_len (a := b) (by simpa using h9)
  split
  · simp; omega
  split
  · simp; omega
  · simp

theorem join_snoc : ∀ (l : List O3) (o : O3), joinT (l ++ [o]) = (if l = [] then [] else joinT l ++ [59]) ++ txO o
  | [], o => by simp [joinT]
  | [x], o => by simp [joinT]
  | x :: y :: l, o => by
    have ih := join_snoc (y :: l) o
    rw [if_neg (by simp)] at ih
    rw [if_neg (by simp), List.cons_append, joinT_cons x ((y :: l) ++ [o]) (by simp), ih, joinT_cons x (y :: l) (by simp)]
    simp
theorem join_ne {l : List O3} (h : ∀ o ∈ l, txO o ≠ []) (hl : l ≠ []) : joinT l ≠ [] := by
  have := joinT_len l h
  intro e
  rw [e] at this
  cases l with
  | nil => exact hl rfl
  | cons => simp at this
theorem join_empty {l : List O3} (h : ∀ o ∈ l, txO o ≠ []) : joinT l = [] ↔ l = [] :=
  ⟨fun e => by
    by_cases hl : l = []
    · exact hl
    · exact absurd e (join_ne h hl), fun e => by subst e; rfl⟩
theorem join_grow (l : List O3) (o : O3) : (joinT l).length ≤ (joinT (l ++ [o])).length := by
  rw [join_snoc]
  by_cases h : l = []
  · subst h; simp [joinT]
  · rw [if_neg h]; simp

/-- What was asked is a command's value. -/
theorem tx_op {k a b : Int} (h : txOf k a b ≠ []) : InB (opOf (cmOf k a b)).val := by
  by_cases h2 : k = 2
  · subst h2
    by_cases ha : -999999 ≤ a ∧ a ≤ 999999
    · simp [cmOf, opOf]
      exact ⟨by omega, by omega⟩
    · exfalso
      apply h
      have hf : fitsN a = false := by
        cases hx : fitsN a with
        | false => rfl
        | true => simp [fitsN] at hx; omega
      simp [txOf, ha, hf]
  · have : (opOf (cmOf k a b)).val = 0 := by
      unfold cmOf
      split
      · rfl
      split
      · rfl
      split
      · rfl
      split
      · rfl
      split
      · rfl
      split
      · rfl
      split
      · rfl
      · rfl
    rw [this]
    exact ⟨by decide, by decide⟩

end Go.Proofs.YtjnmpejcegmkhabDoor

namespace Go.Proofs.YtjnmpejcegmkhabDoor
open Go.RowKit

set_option maxHeartbeats 8000000 in
set_option maxRecDepth 100000 in
theorem ktext_c (k a b : Int) {w : World} (h : Tab w) : Calls Tryd.prog 5 #[.agg #[I k, I a, I b]] w fun x w' => x = .returned (S (txOf k a b)) ∧ Below w.heap.size w w' := by
  have H0 : Hid (BoxAt w #[I k, I a, I b] 30 (w.alloc (.cells #[I k, I a, I b] 30))) := BoxAt.new h _ _
  have HB : Hid (Below w.heap.size w (w.alloc (.cells #[I k, I a, I b] 30))) := H0.out.below
  have HW : Hid (∀ W, Calls Tryd.prog 10 #[I a, I (-999999), I 999999] W fun e w' => e = .returned (.bool (decide (-999999 ≤ a ∧ a ≤ 999999))) ∧ w' = W) := fun W => within_c a _ _ W
  have HFa : Hid (∀ W, Calls Tryd.prog 12 #[I a] W fun x w' => x = .returned (.bool (fitsN a)) ∧ w' = W) := fun W => kfits_c a W
  have HFb : Hid (∀ W, Calls Tryd.prog 12 #[I b] W fun x w' => x = .returned (.bool (fitsN b)) ∧ w' = W) := fun W => kfits_c b W
  have hSA := S_app
  have h0 := nb_alloc w #[I k, I a, I b] 30
  obtain ⟨f1, _⟩ := nb_facts h0
  have c0 := f1 0
  have c1 := f1 1
  have c2 := f1 2
  simp at c0 c1 c2
  clear f1 h0 h
  unfold txOf
  by_cases k1 : k = 1
  · rw [if_pos k1]
    subst k1
    go_enter Tryd.func5, Tryd.ntmps5
    go_wp2
    go_ret
    exact ⟨rfl, HB.out⟩
  rw [if_neg k1]
  by_cases k3 : k = 3
  · rw [if_pos k3]
    subst k3
    clear k1
    go_enter Tryd.func5, Tryd.ntmps5
    go_wp2
    go_ret
    exact ⟨rfl, HB.out⟩
  rw [if_neg k3]
  by_cases k10 : k = 10
  · rw [if_pos k10]
    subst k10
    clear k1 k3
    go_enter Tryd.func5, Tryd.ntmps5
    go_wp2
    go_ret
    exact ⟨rfl, HB.out⟩
  rw [if_neg k10]
  have e1 : (k == 1) = false := by simpa using k1
  have e3 : (k == 3) = false := by simpa using k3
  have e10 : (k == 10) = false := by simpa using k10
  clear k1 k3 k10
  by_cases k2 : k = 2 ∧ -999999 ≤ a ∧ a ≤ 999999
  · rw [if_pos k2]
    have hd : decide (-999999 ≤ a ∧ a ≤ 999999) = true := by simp; omega
    obtain ⟨rfl, ha⟩ := k2
    have hc := H0.out.itoa a ⟨by omega, by omega⟩
    have hl := itoa_len a (by omega) (by omega)
    rw [hd] at HW
    replace hc : Hid _ := hc
    generalize Lib.itoa a = l at *
    have q1 : ¬ 9223372036854775807 < 1 + l.length := by omega
    clear ha hd HFa HFb e1 e3 e10
    go_enter Tryd.func5, Tryd.ntmps5
    go_wp2_with fail
    refine Calls.mono (HW.out _) ?_
    rintro e w1 ⟨rfl, rfl⟩
    go_wp2_with fail
    refine Calls.mono hc.out ?_
    rintro e w1 ⟨rfl, hb1⟩
    go_wp2
    go_ret
    exact ⟨rfl, hb1.below⟩
  rw [if_neg k2]
  cases fa : fitsN a with
  | false =>
    rw [if_pos rfl]
    rw [fa] at HFa
    by_cases k2' : k = 2
    · subst k2'
      have hd : decide (-999999 ≤ a ∧ a ≤ 999999) = false := by
        rw [decide_eq_false_iff_not]
        intro hx
        exact k2 ⟨rfl, hx⟩
      rw [hd] at HW
      clear k2 hd HFb e1 e3 e10 fa
      go_enter Tryd.func5, Tryd.ntmps5
      go_wp2_with fail
      refine Calls.mono (HW.out _) ?_
      rintro e w1 ⟨rfl, rfl⟩
      go_wp2_with fail
      refine Calls.mono (HFa.out _) ?_
      rintro e w1 ⟨rfl, rfl⟩
      go_wp2
      go_ret
      exact ⟨rfl, HB.out⟩
    · have e2 : (k == 2) = false := by simpa using k2'
      clear k2 k2' HW HFb fa
      go_enter Tryd.func5, Tryd.ntmps5
      go_wp2_with fail
      refine Calls.mono (HFa.out _) ?_
      rintro e w1 ⟨rfl, rfl⟩
      go_wp2
      go_ret
      exact ⟨rfl, HB.out⟩
  | true =>
    rw [if_neg (by simp)]
    have hfa : 0 ≤ a ∧ a ≤ 999999 := by simpa [fitsN] using fa
    have e2 : (k == 2) = false := by
      rw [beq_eq_false_iff_ne]
      intro hx
      exact k2 ⟨hx, by omega⟩
    have hc := H0.out.itoa a ⟨by omega, by omega⟩
    have hl := itoa_len a (by omega) (by omega)
    rw [fa] at HFa
    replace hc : Hid _ := hc
    generalize Lib.itoa a = l at *
    have q1 : ¬ 9223372036854775807 < 1 + l.length := by omega
    have q2 : ¬ 9223372036854775807 < 1 + l.length := by omega
    have q3 : ¬ 9223372036854775807 < 1 + l.length := by omega
    have q4 : ¬ 9223372036854775807 < 1 + l.length := by omega
    clear hfa fa k2 HW
    by_cases k4 : k = 4
    · rw [if_pos k4]
      subst k4
      clear HFb q2 q3 q4
      go_enter Tryd.func5, Tryd.ntmps5
      go_wp2_with fail
      refine Calls.mono (HFa.out _) ?_
      rintro e w1 ⟨rfl, rfl⟩
      go_wp2_with fail
      refine Calls.mono hc.out ?_
      rintro e w1 ⟨rfl, hb1⟩
      have g1 := (nb_facts hb1.blk).1 0
      simp at g1
      go_wp2
      go_ret
      exact ⟨rfl, hb1.below⟩
    rw [if_neg k4]
    have e4 : (k == 4) = false := by simpa using k4
    by_cases k5 : k = 5
    · rw [if_pos k5]
      subst k5
      clear HFb q2 q3 q4
      go_enter Tryd.func5, Tryd.ntmps5
      go_wp2_with fail
      refine Calls.mono (HFa.out _) ?_
      rintro e w1 ⟨rfl, rfl⟩
      go_wp2_with fail
      refine Calls.mono hc.out ?_
      rintro e w1 ⟨rfl, hb1⟩
      have g1 := (nb_facts hb1.blk).1 0
      simp at g1
      go_wp2
      go_ret
      exact ⟨rfl, hb1.below⟩
    rw [if_neg k5]
    have e5 : (k == 5) = false := by simpa using k5
    by_cases k7 : k = 7
    · rw [if_pos k7]
      subst k7
      clear HFb q2 q3 q4
      go_enter Tryd.func5, Tryd.ntmps5
      go_wp2_with fail
      refine Calls.mono (HFa.out _) ?_
      rintro e w1 ⟨rfl, rfl⟩
      go_wp2_with fail
      refine Calls.mono hc.out ?_
      rintro e w1 ⟨rfl, hb1⟩
      have g1 := (nb_facts hb1.blk).1 0
      simp at g1
      go_wp2
      go_ret
      exact ⟨rfl, hb1.below⟩
    rw [if_neg k7]
    have e7 : (k == 7) = false := by simpa using k7
    clear k4 k5 k7 q2 q3 q4
    cases fb : fitsN b with
    | false =>
      rw [if_pos rfl]
      rw [fb] at HFb
      clear fb
      go_enter Tryd.func5, Tryd.ntmps5
      go_wp2_with fail
      refine Calls.mono (HFa.out _) ?_
      rintro e w1 ⟨rfl, rfl⟩
      go_wp2_with fail
      refine Calls.mono hc.out ?_
      rintro e w1 ⟨rfl, hb1⟩
      have g0 := (nb_facts hb1.blk).1 0
      have g2 := (nb_facts hb1.blk).1 2
      simp at g0 g2
      replace hb1 : Hid _ := hb1
      clear c0 c1 c2 hc HFa
      go_wp2_with fail
      refine Calls.mono (HFb.out _) ?_
      rintro e w2 ⟨rfl, rfl⟩
      go_wp2
      go_ret
      exact ⟨rfl, hb1.out.below⟩
    | true =>
      rw [if_neg (by simp)]
      have hfb : 0 ≤ b ∧ b ≤ 999999 := by simpa [fitsN] using fb
      have HCB : Hid (∀ W, BoxAt w #[I k, I a, I b] 30 W → Calls Tryd.prog 11 #[.int .i64 b] W fun e w' => e = .returned (S (Lib.itoa b)) ∧ BoxAt w #[I k, I a, I b] 30 w') := fun W hW => hW.itoa b ⟨by omega, by omega⟩
      have hlb := itoa_len b (by omega) (by omega)
      rw [fb] at HFb
      generalize Lib.itoa b = lb at *
      have q2 : ¬ 9223372036854775807 < l.length + 1 + 1 := by omega
      have q3 : ¬ 9223372036854775807 < l.length + 1 + 1 + lb.length := by omega
      clear fb hfb
      by_cases k8 : k = 8
      · rw [if_pos k8]
        subst k8
        go_enter Tryd.func5, Tryd.ntmps5
        go_wp2_with fail
        refine Calls.mono (HFa.out _) ?_
        rintro e w1 ⟨rfl, rfl⟩
        go_wp2_with fail
        refine Calls.mono hc.out ?_
        rintro e w1 ⟨rfl, hb1⟩
        have g0 := (nb_facts hb1.blk).1 0
        have g2 := (nb_facts hb1.blk).1 2
        simp at g0 g2
        replace hb1 : Hid _ := hb1
        clear c0 c1 c2 hc HFa
        go_wp2_with fail
        refine Calls.mono (HFb.out _) ?_
        rintro e w2 ⟨rfl, rfl⟩
        have hcb := HCB.out _ hb1.out
        replace hcb : Hid _ := hcb
        clear HCB
        go_wp2_with fail
        refine Calls.mono hcb.out ?_
        rintro e w5 ⟨rfl, hb5⟩
        go_wp2
        go_ret
        exact ⟨rfl, hb5.below⟩
      rw [if_neg k8]
      have e8 : (k == 8) = false := by simpa using k8
      clear k8
      by_cases k9 : k = 9
      · rw [if_pos k9]
        subst k9
        go_enter Tryd.func5, Tryd.ntmps5
        go_wp2_with fail
        refine Calls.mono (HFa.out _) ?_
        rintro e w1 ⟨rfl, rfl⟩
        go_wp2_with fail
        refine Calls.mono hc.out ?_
        rintro e w1 ⟨rfl, hb1⟩
        have g0 := (nb_facts hb1.blk).1 0
        have g2 := (nb_facts hb1.blk).1 2
        simp at g0 g2
        replace hb1 : Hid _ := hb1
        clear c0 c1 c2 hc HFa
        go_wp2_with fail
        refine Calls.mono (HFb.out _) ?_
        rintro e w2 ⟨rfl, rfl⟩
        have hcb := HCB.out _ hb1.out
        replace hcb : Hid _ := hcb
        clear HCB
        go_wp2_with fail
        refine Calls.mono hcb.out ?_
        rintro e w5 ⟨rfl, hb5⟩
        go_wp2
        go_ret
        exact ⟨rfl, hb5.below⟩
      rw [if_neg k9]
      have e9 : (k == 9) = false := by simpa using k9
      clear k9 HCB q2 q3
      go_enter Tryd.func5, Tryd.ntmps5
      go_wp2_with fail
      refine Calls.mono (HFa.out _) ?_
      rintro e w1 ⟨rfl, rfl⟩
      go_wp2_with fail
      refine Calls.mono hc.out ?_
      rintro e w1 ⟨rfl, hb1⟩
      have g0 := (nb_facts hb1.blk).1 0
      have g2 := (nb_facts hb1.blk).1 2
      simp at g0 g2
      replace hb1 : Hid _ := hb1
      clear c0 c1 c2 hc HFa
      go_wp2_with fail
      refine Calls.mono (HFb.out _) ?_
      rintro e w2 ⟨rfl, rfl⟩
      go_wp2
      go_ret
      exact ⟨rfl, hb1.out.below⟩

end Go.Proofs.YtjnmpejcegmkhabDoor

namespace Go.Proofs.YtjnmpejcegmkhabDoor
open Go.RowKit

set_option maxHeartbeats 4000000 in
set_option maxRecDepth 100000 in
theorem procText_c (p : Int × Int × Int) (e : Int) (h1 : I6 p.1) (h2 : I6 p.2.1) (h3 : I6 p.2.2) (he : I6 e) {w : World} (h : Tab w) : Calls Tryd.prog 37 #[.agg #[I p.1, I p.2.1, I p.2.2], I e] w fun x w' => x = .returned (S (procT p e)) ∧ Below w.heap.size w w' := by
  obtain ⟨p1, p2, p3⟩ := p
  unfold procT
  simp only at h1 h2 h3 ⊢
  have H0 : Hid (BoxAt w #[I p1, I p2, I p3] 51 (w.alloc (.cells #[I p1, I p2, I p3] 51))) := BoxAt.new h _ _
  by_cases h0 : e = 0
  · rw [if_pos h0]
    subst h0
    have HS : Hid (∀ W, BoxAt w #[I p1, I p2, I p3] 51 W → (W.cell? ⟨w.heap.size, 0, none⟩ = some (I p1) ∧ W.cell? ⟨w.heap.size, 1, none⟩ = some (I p2) ∧ W.cell? ⟨w.heap.size, 2, none⟩ = some (I p3)) ∧ Hid (BoxAt w #[I p1, I p2, I p3] 51 W)) := by
      intro W hW
      have f1 := (nb_facts hW.blk).1
      exact ⟨⟨f1 0, f1 1, f1 2⟩, hW⟩
    have HA : Hid (∀ W, Hid (BoxAt w #[I p1, I p2, I p3] 51 W) → Calls Tryd.prog 11 #[.int .i64 p1] W fun e w' => e = .returned (S (Lib.itoa p1)) ∧ BoxAt w #[I p1, I p2, I p3] 51 w') := fun W hW => hW.out.itoa p1 h1
    have HB : Hid (∀ W, Hid (BoxAt w #[I p1, I p2, I p3] 51 W) → Calls Tryd.prog 11 #[.int .i64 p2] W fun e w' => e = .returned (S (Lib.itoa p2)) ∧ BoxAt w #[I p1, I p2, I p3] 51 w') := fun W hW => hW.out.itoa p2 h2
    have HC : Hid (∀ W, Hid (BoxAt w #[I p1, I p2, I p3] 51 W) → Calls Tryd.prog 11 #[.int .i64 p3] W fun e w' => e = .returned (S (Lib.itoa p3)) ∧ BoxAt w #[I p1, I p2, I p3] 51 w') := fun W hW => hW.out.itoa p3 h3
    have l1 := h1.len
    have l2 := h2.len
    have l3 := h3.len
    have hSA := S_app
    generalize Lib.itoa p1 = a1 at *
    generalize Lib.itoa p2 = a2 at *
    generalize Lib.itoa p3 = a3 at *
    have q1 : ¬ 9223372036854775807 < a1.length + 1 := by omega
    have q2 : ¬ 9223372036854775807 < a1.length + 1 + a2.length := by omega
    have q3 : ¬ 9223372036854775807 < a1.length + (a2.length + 1) + 1 := by omega
    have q4 : ¬ 9223372036854775807 < a1.length + (a2.length + 1 + 1) + a3.length := by omega
    clear h1 h2 h3 he h
    go_enter Tryd.func37, Tryd.ntmps37
    go_wp2_with fail
    go_region_held3 (fun W => (W.cell? ⟨w.heap.size, 0, none⟩ = some (I p1) ∧ W.cell? ⟨w.heap.size, 1, none⟩ = some (I p2) ∧ W.cell? ⟨w.heap.size, 2, none⟩ = some (I p3)) ∧ Hid (BoxAt w #[I p1, I p2, I p3] 51 W)) (first | exact HS.out _ H0.out.drew | exact HS.out _ (by assumption)) (first | (go_at_call_of 11 p1; refine (HA.out _ (And.right (by assumption))).mono ?_; rintro e w' ⟨rfl, hbx⟩) | (go_at_call_of 11 p2; refine (HB.out _ (And.right (by assumption))).mono ?_; rintro e w' ⟨rfl, hbx⟩) | (go_at_call_of 11 p3; refine (HC.out _ (And.right (by assumption))).mono ?_; rintro e w' ⟨rfl, hbx⟩))
    all_goals go_wp2
    all_goals go_ret
    all_goals exact ⟨by simp, hbx.below⟩
  · rw [if_neg h0]
    have hx := errorText_c e he H0.out.tab
    replace hx : Hid _ := hx
    have b0 : (e != 0) = true := by simpa using h0
    generalize (33 :: Lib.itoa e) = l at *
    clear he h1 h2 h3 h
    go_enter Tryd.func37, Tryd.ntmps37
    go_wp2_with fail
    refine Calls.mono hx.out ?_
    rintro x w1 ⟨rfl, hb⟩
    go_wp2
    go_ret
    exact ⟨rfl, H0.out.below.trans (hb.mono H0.out.below.size)⟩

end Go.Proofs.YtjnmpejcegmkhabDoor

namespace Go.Proofs.YtjnmpejcegmkhabDoor
open Go.RowKit

/-- A list of numbers in memory, as far as it is read. -/
structure IntsAt (w : World) (ao : Option Addr) (l : List Int) : Prop where
  at' : ∀ k, (hk : k < l.length) → ∃ g, ao = some ⟨g, 0, none⟩ ∧ w.cell? ⟨g, k, none⟩ = some (I l[k])
theorem IntsAt.below {w w' : World} {ao : Option Addr} {l : List Int} (h : IntsAt w ao l) (hb : Below w.heap.size w w') : IntsAt w' ao l :=
  ⟨fun k hk => by
    obtain ⟨g, e, hc⟩ := h.at' k hk
    exact ⟨g, e, (hb.cell (p := ⟨g, k, none⟩) (cell_lt hc)).trans hc⟩⟩
theorem ints_open {w : World} {b : Nat} {iv : Value} {l : List Int} (h : w.ownsRow b 3 1 iv l.length (l.map I)) : ∃ ao cap, iv = .slice ao l.length cap ∧ l.length ≤ cap ∧ l.length ≤ maxLen ∧ cap ≤ maxLen ∧ IntsAt w ao l := by
  obtain ⟨ao, cap, e1, c1, c2, c3, h2⟩ := ownsRow_cells h
  refine ⟨ao, cap, e1, c1, c2, c3, ⟨fun k hk => ?_⟩⟩
  obtain ⟨g, e, _, c⟩ := h2 k (I l[k]) (by simp [hk])
  exact ⟨g, e, c⟩
theorem itemsT_take (l : List Int) (k : Nat) (hk : k < l.length) : itemsT (l.take (k + 1)) = itemsT (l.take k) ++ 44 :: Lib.itoa l[k] := by
  rw [List.take_succ_eq_append_getElem hk, itemsT_app]
  simp [itemsT]

set_option maxHeartbeats 8000000 in
set_option maxRecDepth 100000 in
theorem leafText_c (d : ND) (wv iv : Value) (hd : NdB d) {b : Nat} {w : World} (h : Tab w) (ho : w.ownsRow b 3 1 iv d.items.length (d.items.map I)) : Calls Tryd.prog 54 #[.agg (ndCells d wv iv).toArray] w fun x w' => x = .returned (S (leafT d)) ∧ Below w.heap.size w w' := by
  obtain ⟨ao, cap, rfl, c1, c2, c3, hi0⟩ := ints_open ho
  unfold maxLen at c2 c3
  have HD : Hid (NdB d) := hd
  have HL : Hid (leafT d = headT d ++ itemsT d.items) := rfl
  have HH : Hid (headT d = Lib.itoa d.num ++ 58 :: (Lib.itoa d.puts ++ 44 :: Lib.itoa d.gets)) := rfl
  unfold ndCells
  have H0 : Hid (BoxAt w #[I d.num, I d.depth, I d.rank, .bool d.inner, .bool d.shut, I d.inside, I d.toggle, I d.width, wv, I d.puts, I d.gets, .slice ao d.items.length cap] 80 (w.alloc (.cells #[I d.num, I d.depth, I d.rank, .bool d.inner, .bool d.shut, I d.inside, I d.toggle, I d.width, wv, I d.puts, I d.gets, .slice ao d.items.length cap] 80))) := BoxAt.new h _ _
  have l1 := hd.num.len
  have l2 := hd.puts.len
  have l3 := hd.gets.len
  have i1 := hd.num.i6
  have i2 := hd.puts.i6
  have i3 := hd.gets.i6
  have hm := hd.many
  have HI : Hid (∀ x ∈ d.items, InB x) := hd.items
  generalize leafT d = lt at *
  generalize headT d = hd0 at *
  generalize d.num = p1 at *
  generalize d.puts = p2 at *
  generalize d.gets = p3 at *
  generalize d.items = its at *
  generalize d.depth = x1 at *
  generalize d.rank = x2 at *
  generalize d.inner = x3 at *
  generalize d.shut = x4 at *
  generalize d.inside = x5 at *
  generalize d.toggle = x6 at *
  generalize d.width = x7 at *
  have HS : Hid (∀ W, BoxAt w #[I p1, I x1, I x2, .bool x3, .bool x4, I x5, I x6, I x7, wv, I p2, I p3, .slice ao its.length cap] 80 W → (W.cell? ⟨w.heap.size, 0, none⟩ = some (I p1) ∧ W.cell? ⟨w.heap.size, 9, none⟩ = some (I p2) ∧ W.cell? ⟨w.heap.size, 10, none⟩ = some (I p3)) ∧ Hid (BoxAt w #[I p1, I x1, I x2, .bool x3, .bool x4, I x5, I x6, I x7, wv, I p2, I p3, .slice ao its.length cap] 80 W)) := by
    intro W hW
    have f1 := (nb_facts hW.blk).1
    exact ⟨⟨f1 0, f1 9, f1 10⟩, hW⟩
  have HA : Hid (∀ W, Hid (BoxAt w #[I p1, I x1, I x2, .bool x3, .bool x4, I x5, I x6, I x7, wv, I p2, I p3, .slice ao its.length cap] 80 W) → Calls Tryd.prog 11 #[.int .i64 p1] W fun e w' => e = .returned (S (Lib.itoa p1)) ∧ BoxAt w #[I p1, I x1, I x2, .bool x3, .bool x4, I x5, I x6, I x7, wv, I p2, I p3, .slice ao its.length cap] 80 w') := fun W hW => hW.out.itoa p1 i1
  have HB : Hid (∀ W, Hid (BoxAt w #[I p1, I x1, I x2, .bool x3, .bool x4, I x5, I x6, I x7, wv, I p2, I p3, .slice ao its.length cap] 80 W) → Calls Tryd.prog 11 #[.int .i64 p2] W fun e w' => e = .returned (S (Lib.itoa p2)) ∧ BoxAt w #[I p1, I x1, I x2, .bool x3, .bool x4, I x5, I x6, I x7, wv, I p2, I p3, .slice ao its.length cap] 80 w') := fun W hW => hW.out.itoa p2 i2
  have HC : Hid (∀ W, Hid (BoxAt w #[I p1, I x1, I x2, .bool x3, .bool x4, I x5, I x6, I x7, wv, I p2, I p3, .slice ao its.length cap] 80 W) → Calls Tryd.prog 11 #[.int .i64 p3] W fun e w' => e = .returned (S (Lib.itoa p3)) ∧ BoxAt w #[I p1, I x1, I x2, .bool x3, .bool x4, I x5, I x6, I x7, wv, I p2, I p3, .slice ao its.length cap] 80 w') := fun W hW => hW.out.itoa p3 i3
  have hSA := S_app
  generalize Lib.itoa p1 = a1 at *
  generalize Lib.itoa p2 = a2 at *
  generalize Lib.itoa p3 = a3 at *
  have q1 : ¬ 9223372036854775807 < a1.length + 1 := by omega
  have q2 : ¬ 9223372036854775807 < a1.length + 1 + a2.length := by omega
  have q3 : ¬ 9223372036854775807 < a1.length + (a2.length + 1) + 1 := by omega
  have q4 : ¬ 9223372036854775807 < a1.length + (a2.length + 1 + 1) + a3.length := by omega
  have HIA : Hid (IntsAt w ao its) := hi0
  clear i1 i2 i3 h hd ho hi0 HD
  go_enter Tryd.func54, Tryd.ntmps54
  go_wp2_with fail
  go_region_held3 (fun W => (W.cell? ⟨w.heap.size, 0, none⟩ = some (I p1) ∧ W.cell? ⟨w.heap.size, 9, none⟩ = some (I p2) ∧ W.cell? ⟨w.heap.size, 10, none⟩ = some (I p3)) ∧ Hid (BoxAt w #[I p1, I x1, I x2, .bool x3, .bool x4, I x5, I x6, I x7, wv, I p2, I p3, .slice ao its.length cap] 80 W)) (first | exact HS.out _ H0.out.drew | exact HS.out _ (by assumption)) (first | (go_at_call_of 11 p1; refine (HA.out _ (And.right (by assumption))).mono ?_; rintro e w' ⟨rfl, hbx⟩) | (go_at_call_of 11 p2; refine (HB.out _ (And.right (by assumption))).mono ?_; rintro e w' ⟨rfl, hbx⟩) | (go_at_call_of 11 p3; refine (HC.out _ (And.right (by assumption))).mono ?_; rintro e w' ⟨rfl, hbx⟩))
  go_wp2_with fail
  have HX : Hid (BoxAt w #[I p1, I x1, I x2, .bool x3, .bool x4, I x5, I x6, I x7, wv, I p2, I p3, .slice ao its.length cap] 80 w') := hbx
  have hh : hd0.length ≤ 62 := by rw [HH.out]; simp; omega
  clear HA HB HC HS H0 q1 q2 q3 q4
  go_loopw [3, 4] (fun tt ii wr => ∃ (k : Nat) (t : List UInt8), k ≤ its.length ∧ tt = S t ∧ ii = I k ∧ Hid (t = hd0 ++ itemsT (its.take k)) ∧ Hid (BoxAt w #[I p1, I x1, I x2, .bool x3, .bool x4, I x5, I x6, I x7, wv, I p2, I p3, .slice ao its.length cap] 80 wr)) (fun _ ii _ => its.length - (intOf ii).toNat)
  case atStart => exact ⟨0, _, Nat.zero_le _, rfl, rfl, by show _ = _; simp [itemsT, HH.out], HX⟩
  case round =>
    obtain ⟨k, t, hk, rfl, rfl, ht, hbr⟩ := hrel
    have f1 := (nb_facts hbr.out.blk).1
    have c11 := f1 11
    simp at c11
    have htl : t.length ≤ 62 + 21 * k := by
      have h3 := itemsT_len (l := its.take k) fun x hx => HI.out x (List.mem_of_mem_take hx)
      have h4 : (its.take k).length = k := by simp; omega
      rw [ht.out, List.length_append]
      omega
    by_cases hlt : k < its.length
    · have bl : decide ((k : Int) < (its.length : Int)) = true := by simp; omega
      obtain ⟨g, rfl, hc⟩ := (HIA.out.below hbr.out.below).at' k hlt
      have hin := HI.out its[k] (List.getElem_mem hlt)
      have li := hin.len
      have hcall := hbr.out.itoa its[k] hin.i6
      replace hcall : Hid _ := hcall
      have HT : Hid (itemsT (its.take (k + 1)) = itemsT (its.take k) ++ 44 :: Lib.itoa its[k]) := itemsT_take its k hlt
      generalize Lib.itoa its[k] = a at *
      generalize its[k] = x at *
      have q1 : ¬ 9223372036854775807 < 1 + a.length := by omega
      have q2 : ¬ 9223372036854775807 < t.length + (a.length + 1) := by omega
      clear hin f1 HIA HI
      go_wp2_with fail
      refine Calls.mono hcall.out ?_
      rintro e w5 ⟨rfl, hb5⟩
      replace hb5 : Hid _ := hb5
      clear hcall hbr hc c11
      go_wp2
      refine ⟨⟨k + 1, _, by omega, rfl, rfl, ?_, hb5⟩, ?_⟩
      · show _ = _
        rw [HT.out, ht.out]
        simp
      · show its.length - ((k : Int) + 1).toNat < its.length - (k : Int).toNat
        omega
    · have ek : k = its.length := by omega
      have bl : decide ((k : Int) < (its.length : Int)) = false := by simp; omega
      have HF : Hid (t = lt) := by
        show _ = _
        rw [ht.out, HL.out, ek, List.take_length]
      go_wp2
      go_ret
      rw [← HF.out]
      exact ⟨rfl, hbr.out.below⟩

end Go.Proofs.YtjnmpejcegmkhabDoor
