/- Contracts of package prismref's digits, value and cut. No statement of the seat is proved here. The program's reader of texts: contracts of readOne, readTwo, readCommand. No statement of the seat is proved here. The program's reader of texts: contract of readCommand. No statement of the seat is proved here. The program's reader of texts: contract of readScript. No statement of the seat is proved here. Contracts of package prismref's parts and right. No statement of the seat is proved here. Contract of package prismref's right. No statement of the seat is proved here. The texts of the program's answers: contracts of errorText, numberText, procText. No statement of the seat is proved here. The texts of the program's answers: contracts of procText, leafText. No statement of the seat is proved here. The texts of the program's answers: contract of leafText. No statement of the seat is proved here. The texts of the program's answers: contract of leavesText. No statement of the seat is proved here. -/
import Derived.Test.YtjnmpejcegmkhaaGreatDoorPq0
import Derived.Test.YtjnmpejcegmkhaaGreatDoorProgA
import Derived.Test.YtjnmpejcegmkhaaGreatDoorRefB
import Derived.Deep.RegionHeld
import Derived.Deep.RegionWith
import Derived.Deep.QuietTactic
import Derived.BigQuiet
import Derived.Deep.RegionHeld3
namespace Go.Proofs.YtjnmpejcegmkhaaGreatDoor
open Go.RowKit

theorem S_ext (s : List UInt8) (a b : Nat) : (⟨s.toArray⟩ : ByteArray).extract a b = ⟨((s.drop a).take (b - a)).toArray⟩ := by
  apply ByteArray.ext
  simp [List.extract_eq_take_drop]

set_option maxHeartbeats 4000000 in
set_option maxRecDepth 100000 in
theorem rdigits_c (s : List UInt8) (hs : s.length < 2 ^ 63) (w : World) : Calls Tryz.prog 29 #[S s] w fun e w' => e = .returned (.bool (digB s)) ∧ Below w.heap.size w w' := by
  have HD : Hid (digB s = (decide (1 ≤ s.length) && decide (s.length ≤ 6) && s.all isDg)) := rfl
  generalize digB s = R at *
  by_cases h1 : s.length < 1
  · have b1 : decide ((s.length : Int) < 1) = true := by simp; omega
    have e : R = false := by rw [HD.out]; simp; omega
    subst e
    clear HD h1
    go_enter Tryz.func29, Tryz.ntmps29
    go_wp2
    go_ret
    exact ⟨rfl, Below.refl _ _⟩
  have b1 : decide ((s.length : Int) < 1) = false := by simp; omega
  by_cases h6 : 6 < s.length
  · have b6 : decide ((s.length : Int) > 6) = true := by simp; omega
    have e : R = false := by rw [HD.out]; simp; omega
    subst e
    clear HD h1 h6
    go_enter Tryz.func29, Tryz.ntmps29
    go_wp2
    go_ret
    exact ⟨rfl, Below.refl _ _⟩
  have b6 : decide ((s.length : Int) > 6) = false := by simp; omega
  replace HD : Hid (R = s.all isDg) := by
    show _ = _
    rw [HD.out]
    have : decide (1 ≤ s.length) = true := by simp; omega
    rw [this]
    have : decide (s.length ≤ 6) = true := by simp; omega
    rw [this]
    rfl
  clear h1 h6
  go_enter Tryz.func29, Tryz.ntmps29
  go_wp2_with fail
  go_loopw [3] (fun ii wr => ∃ k : Nat, k ≤ s.length ∧ ii = I k ∧ Hid ((s.take k).all isDg = true) ∧ wr = w) (fun ii _ => s.length - (intOf ii).toNat)
  case atStart => exact ⟨0, Nat.zero_le _, rfl, rfl, rfl⟩
  case round =>
    obtain ⟨k, hk, rfl, ha, rfl⟩ := hrel
    by_cases hlt : k < s.length
    · have bl : decide ((k : Int) < (s.length : Int)) = true := by simp; omega
      have hx : ((⟨s.toArray⟩ : ByteArray)[k]'hlt).toNat = (s[k]).toNat := rfl
      have HS : Hid ((s.take (k + 1)).all isDg = ((s.take k).all isDg && isDg s[k])) := by
        show _ = _
        rw [List.take_succ_eq_append_getElem hlt, List.all_append]
        simp
      have HN : Hid (isDg s[k] = false → R = false) := by
        intro hf
        rw [HD.out, List.all_eq_false]
        exact ⟨s[k], List.getElem_mem hlt, by rw [hf]; simp⟩
      have HB : Hid (isDg s[k] = (decide (48 ≤ (s[k]).toNat) && decide ((s[k]).toNat ≤ 57))) := by
        show _ = _
        unfold isDg
        simp [UInt8.le_iff_toNat_le]
      generalize isDg s[k] = y at *
      generalize (s[k]).toNat = d at *
      by_cases h48 : d < 48
      · have c1 : decide ((d : Int) < 48) = true := by simp; omega
        have e := HN.out (by rw [HB.out]; simp; omega)
        subst e
        clear HN HB HS HD
        go_wp2
        go_ret
        exact ⟨rfl, Below.refl _ _⟩
      have c1 : decide ((d : Int) < 48) = false := by simp; omega
      by_cases h57 : 57 < d
      · have c2 : decide ((d : Int) > 57) = true := by simp; omega
        have e := HN.out (by rw [HB.out]; simp; omega)
        subst e
        clear HN HB HS HD
        go_wp2
        go_ret
        exact ⟨rfl, Below.refl _ _⟩
      have c2 : decide ((d : Int) > 57) = false := by simp; omega
      have hy : Hid (y = true) := by show _ = _; rw [HB.out]; simp; omega
      clear HN HB
      go_wp2
      refine ⟨⟨k + 1, by omega, rfl, ?_, by first | rfl | trivial⟩, ?_⟩
      · show _ = _
        rw [HS.out, ha.out, hy.out]
        rfl
      · show s.length - ((k : Int) + 1).toNat < s.length - (k : Int).toNat
        omega
    · have ek : k = s.length := by omega
      have bl : decide ((k : Int) < (s.length : Int)) = false := by simp; omega
      have e : R = true := by
        have := ha.out
        rw [ek, List.take_length] at this
        rw [HD.out, this]
      subst e
      clear HD
      go_wp2
      go_ret
      exact ⟨rfl, Below.refl _ _⟩

set_option maxHeartbeats 4000000 in
set_option maxRecDepth 100000 in
theorem rcut_c (s : List UInt8) (c : UInt8) (hs : s.length < 2 ^ 63) (w : World) : Calls Tryz.prog 28 #[S s, .int .u8 c.toNat] w fun e w' => e = .returned (.tuple #[S (cutL c s).1, S (cutL c s).2.1, .bool (cutL c s).2.2]) ∧ Below w.heap.size w w' := by
  have HAt : Hid (∀ k, (hk : k < s.length) → s[k] = c → (∀ j, (hj : j < s.length) → j < k → s[j] ≠ c) → cutL c s = (s.take k, s.drop (k + 1), true)) := fun k hk h1 h2 => cutL_at c s k hk h1 (fun j hj => h2 j (by omega) hj)
  have HNo : Hid ((∀ j, (hj : j < s.length) → s[j] ≠ c) → cutL c s = (s, [], false)) := cutL_no c s
  generalize cutL c s = R at *
  go_enter Tryz.func28, Tryz.ntmps28
  go_wp2_with fail
  go_loopw [7] (fun ii wr => ∃ k : Nat, k ≤ s.length ∧ ii = I k ∧ Hid (∀ j, (hj : j < s.length) → j < k → s[j] ≠ c) ∧ wr = w) (fun ii _ => s.length - (intOf ii).toNat)
  case atStart => exact ⟨0, Nat.zero_le _, rfl, fun j _ h => absurd h (Nat.not_lt_zero _), rfl⟩
  case round =>
    obtain ⟨k, hk, rfl, ha, rfl⟩ := hrel
    by_cases hlt : k < s.length
    · have bl : decide ((k : Int) < (s.length : Int)) = true := by simp; omega
      have hx : ((⟨s.toArray⟩ : ByteArray)[k]'hlt).toNat = (s[k]).toNat := rfl
      by_cases hc : s[k] = c
      · have e := HAt.out k hlt hc ha.out
        have HE : Hid (R = (s.take k, s.drop (k + 1), true)) := e
        have bc : (((s[k]).toNat : Int) == (c.toNat : Int)) = true := by rw [hc]; simp
        generalize (s[k]).toNat = d at *
        clear HAt HNo e
        go_wp2_with fail
        go_quiet (fail)
        go_wp2
        rw [HE.out]
        refine bodyPost_ret (v := .tuple #[S (s.take k), S (s.drop (k + 1)), .bool true]) ?_ rfl ⟨rfl, Below.drewN' (Below.refl _ _) _⟩
        have e1 := S_ext s 0 k
        have e2 := S_ext s (k + 1) s.length
        rw [List.take_of_length_le (by simp)] at e2
        simp only [List.drop_zero, Nat.sub_zero] at e1
        simp [results, Tryz.results28, go_sem, e1, e2]
      · have bc : (((s[k]).toNat : Int) == (c.toNat : Int)) = false := by
          rw [beq_eq_false_iff_ne]
          intro e
          exact hc (UInt8.toNat_inj.1 (by omega))
        have HC : Hid (s[k] ≠ c) := hc
        have HA2 : Hid (∀ j, (hj : j < s.length) → j < k + 1 → s[j] ≠ c) := by
          intro j hj hlt2
          by_cases hjk : j = k
          · subst hjk; exact HC.out
          · exact ha.out j hj (by omega)
        generalize (s[k]).toNat = d at *
        clear hc HC
        go_wp2
        refine ⟨⟨k + 1, by omega, rfl, HA2, by first | rfl | trivial⟩, ?_⟩
        show s.length - ((k : Int) + 1).toNat < s.length - (k : Int).toNat
        omega
    · have bl : decide ((k : Int) < (s.length : Int)) = false := by simp; omega
      have HE : Hid (R = (s, [], false)) := HNo.out fun j hj => ha.out j hj (by omega)
      clear HAt HNo
      go_wp2
      rw [HE.out]
      exact bodyPost_ret (v := .tuple #[S s, S [], .bool false]) (by simp [results, Tryz.results28, go_sem]) rfl ⟨rfl, Below.refl _ _⟩

set_option maxHeartbeats 4000000 in
set_option maxRecDepth 100000 in
theorem rvalue_c (s : List UInt8) (hd : digB s = true) (w : World) : Calls Tryz.prog 31 #[S s] w fun e w' => e = .returned (I (valOf s)) ∧ Below w.heap.size w w' := by
  simp only [digB, Bool.and_eq_true, decide_eq_true_eq] at hd
  obtain ⟨⟨_, h6⟩, hall⟩ := hd
  have HA : Hid (∀ b ∈ s, isDg b = true) := fun b hb => List.all_eq_true.1 hall b hb
  have HR : Hid (∀ k, k ≤ s.length → 0 ≤ valOf (s.take k) ∧ valOf (s.take k) < ((10 ^ k : Nat) : Int)) := valOf_range HA.out
  have HE : Hid (valOf s = valOf (s.take s.length)) := by show _ = _; rw [List.take_length]
  generalize valOf s = V at *
  clear hall
  go_enter Tryz.func31, Tryz.ntmps31
  go_wp2_with fail
  go_loopw [3, 4] (fun nn ii wr => ∃ k : Nat, k ≤ s.length ∧ nn = I (valOf (s.take k)) ∧ ii = I k ∧ wr = w) (fun _ ii _ => s.length - (intOf ii).toNat)
  case atStart => exact ⟨0, Nat.zero_le _, rfl, rfl, rfl⟩
  case round =>
    obtain ⟨k, hk, rfl, rfl, rfl⟩ := hrel
    by_cases hlt : k < s.length
    · have bl : decide ((k : Int) < (s.length : Int)) = true := by simp; omega
      have hx : ((⟨s.toArray⟩ : ByteArray)[k]'hlt).toNat = (s[k]).toNat := rfl
      have hdg := isDg_range (HA.out s[k] (List.getElem_mem hlt))
      have HT : Hid (valOf (s.take (k + 1)) = 10 * valOf (s.take k) + (((s[k]).toNat : Int) - 48)) := valOf_take hlt
      have hv := HR.out k hk
      have hp : ((10 ^ k : Nat) : Int) ≤ 1000000 := by
        have : 10 ^ k ≤ 10 ^ 6 := Nat.pow_le_pow_right (by omega) (by omega)
        omega
      have hv1 := hv.1
      have hv2 : valOf (s.take k) < 1000000 := by omega
      generalize (s[k]).toNat = d at *
      generalize hvk : valOf (s.take k) = vk at *
      replace hvk : Hid _ := hvk
      clear hv hp
      go_wp2
      refine ⟨⟨k + 1, by omega, ?_, rfl, by first | rfl | trivial⟩, ?_⟩
      · rw [HT.out]
      · show s.length - ((k : Int) + 1).toNat < s.length - (k : Int).toNat
        omega
    · have ek : k = s.length := by omega
      have bl : decide ((k : Int) < (s.length : Int)) = false := by simp; omega
      have HF : Hid (valOf (s.take k) = V) := by show _ = _; rw [HE.out, ek]
      go_wp2
      go_ret
      rw [HF.out]
      exact ⟨rfl, Below.refl _ _⟩

end Go.Proofs.YtjnmpejcegmkhaaGreatDoor

namespace Go.Proofs.YtjnmpejcegmkhaaGreatDoor
open Go.RowKit

def cmV (c : Cm) : Value := .agg #[.int .u8 c.ch.toNat, I c.a, I c.b]
abbrev cm0 : Value := .agg #[.int .u8 0, I 0, I 0]
/-- What a function that reads a command hands back. -/
def CmRet (rb : Nat) (t : List UInt8) (o : Option (Cm × List UInt8)) (e : Ending) (w' : World) : Prop :=
  match o with
  | some x => e = .returned (.tuple #[cmV x.1, .bool true]) ∧ ∃ r', RdAt w' rb t r' ∧ t.drop r' = x.2
  | none => e = .returned (.tuple #[cm0, .bool false])

theorem rdNum_no {l : List UInt8} (h : decide (0 < (dgOf l).length) = false) : rdNum l = none := by
  unfold rdNum
  rw [if_pos (by simpa using h)]
theorem rdNum_yes {l : List UInt8} (h : decide (0 < (dgOf l).length) = true) : rdNum l = some (valOf (dgOf l), l.drop (dgOf l).length) := by
  unfold rdNum
  rw [if_neg (by intro e; rw [e] at h; simp at h)]
theorem dgv_range (l : List UInt8) : 0 ≤ valOf (dgOf l) ∧ valOf (dgOf l) < 1000000 := by
  have h := valOf_range (dgOf_all l) (dgOf l).length (Nat.le_refl _)
  rw [List.take_length] at h
  have h6 : (dgOf l).length ≤ 6 := by
    by_cases h : (dgOf l).length ≤ 6
    · exact h
    · obtain ⟨_, _, _, h6⟩ := dgOf_drop (l := l) (k := 6) (by omega)
      omega
  have : 10 ^ (dgOf l).length ≤ 10 ^ 6 := Nat.pow_le_pow_right (by omega) h6
  omega

/-- What was laid since may be written. -/
theorem ChgT.fresh {B : Nat} {T : List TypeId} {w w' : World} (h : ChgT B T w w') {k : Nat} (hk : w.heap.size ≤ k) (j : Nat) (x : Value) : ChgT B T w (w'.setCell ⟨k, j, none⟩ x) :=
  ⟨h.os, h.tape, h.output, by simpa [World.setCell] using h.size, fun q hq hc => by rw [Below.heap_setCell _ _ _ _ (show q ≠ k by omega)]; exact h.block q hq hc⟩
theorem RdAt.other {w : World} {rb r : Nat} {t : List UInt8} (h : RdAt w rb t r) {k : Nat} (hk : k ≠ rb) (j : Nat) (x : Value) : RdAt (w.setCell ⟨k, j, none⟩ x) rb t r :=
  ⟨by rw [Below.heap_setCell _ _ _ _ (show rb ≠ k from fun e => hk e.symm)]; exact h.blk, h.le, h.len⟩

set_option maxHeartbeats 8000000 in
set_option maxRecDepth 100000 in
theorem readOne_c {w : World} {rb r : Nat} {t : List UInt8} (h : RdAt w rb t r) (c : UInt8) (hc : c ≠ 112) : Calls Tryz.prog 39 #[.pointer (some ⟨rb, 0, none⟩), .int .u8 c.toNat] w fun e w' => CmRet rb t (rdOne c (t.drop r)) e w' ∧ ChgT rb [71] w w' := by
  have HO : Hid (rdOne c (t.drop r) = (rdNum (t.drop r)).map fun x => (⟨c, x.1, 0⟩, x.2)) := rfl
  have b1 : ((c.toNat : Int) == 112) = false := by
    rw [beq_eq_false_iff_ne]
    intro e
    exact hc (UInt8.toNat_inj.1 (show c.toNat = 112 by omega))
  have h1 := fun W (hw : Below w.heap.size w W) => readNumber_c (h.below hw)
  replace h1 : Hid _ := h1
  generalize rdOne c (t.drop r) = ro at *
  have hr := h.blk
  clear h
  go_enter Tryz.func39, Tryz.ntmps39
  go_wp2_with fail
  refine Calls.mono (h1.out _ ((Below.refl _ _).alloc (Nat.le_refl _) _)) ?_
  rintro e w1 ⟨rfl, hr1, hch⟩
  have nb1 := hch.at (nb_alloc _ _ _) (by decide)
  obtain ⟨f1, f2⟩ := nb_facts nb1
  have HC : Hid (ChgT rb [71] w w1) := (ChgT.of_below ((Below.refl _ _).alloc (Nat.le_refl _) _)).trans hch
  replace hr1 : Hid _ := hr1
  have hlt : w.heap.size ≠ rb := fun e => by
    have := (Array.getElem?_eq_some_iff.1 hr).1
    omega
  have HV := dgv_range (t.drop r)
  have HN : Hid (∀ b, decide (0 < (dgOf (t.drop r)).length) = b → ro = if b = true then some (⟨c, valOf (dgOf (t.drop r)), 0⟩, (t.drop r).drop (dgOf (t.drop r)).length) else none) := by
    intro b hb
    rw [HO.out]
    cases b with
    | false => rw [rdNum_no hb]; rfl
    | true => rw [rdNum_yes hb]; rfl
  generalize decide (0 < (dgOf (t.drop r)).length) = gd at *
  generalize valOf (dgOf (t.drop r)) = V at *
  clear h1 hch HO hr nb1
  cases gd with
  | false =>
    go_wp2
    refine bodyPost_ret (v := .tuple #[cm0, .bool false]) (by simp [results, Tryz.results39, go_sem, f1]) rfl ⟨?_, ((HC.out.fresh (Nat.le_refl _) _ _).fresh (Nat.le_refl _) _ _).fresh (Nat.le_refl _) _ _⟩
    rw [HN.out _ rfl]
    rfl
  | true =>
    go_wp2
    refine bodyPost_ret (v := .tuple #[.agg #[.int .u8 c.toNat, I V, I 0], .bool true]) (by simp [results, Tryz.results39, go_sem, f1]) rfl ⟨?_, ((HC.out.fresh (Nat.le_refl _) _ _).fresh (Nat.le_refl _) _ _).fresh (Nat.le_refl _) _ _⟩
    rw [HN.out _ rfl]
    exact ⟨rfl, _, ((hr1.out.other hlt _ _).other hlt _ _).other hlt _ _, by rw [List.drop_drop]⟩

set_option maxHeartbeats 8000000 in
set_option maxRecDepth 100000 in
theorem readPut_c {w : World} {rb r : Nat} {t : List UInt8} (h : RdAt w rb t r) : Calls Tryz.prog 39 #[.pointer (some ⟨rb, 0, none⟩), .int .u8 112] w fun e w' => CmRet rb t (rdPut (t.drop r)) e w' ∧ ChgT rb [71] w w' := by
  have HO : Hid (rdPut (t.drop r) = if (t.drop r).head? = some 45 then (rdNum (t.drop r).tail).map fun x => (⟨112, -x.1, 0⟩, x.2) else rdOne 112 (t.drop r)) := rfl
  have h0 := fun W (hw : Below w.heap.size w W) => skip_c (h.below hw) 45
  replace h0 : Hid _ := h0
  generalize rdPut (t.drop r) = ro at *
  have hr := h.blk
  clear h
  go_enter Tryz.func39, Tryz.ntmps39
  go_wp2_with fail
  refine Calls.mono (h0.out _ ((Below.refl _ _).alloc (Nat.le_refl _) _)) ?_
  rintro e w0 ⟨rfl, hr0, hch0⟩
  have nb0 := hch0.at (nb_alloc _ _ _) (by decide)
  have HC0 : Hid (ChgT rb [71] w w0) := (ChgT.of_below ((Below.refl _ _).alloc (Nat.le_refl _) _)).trans hch0
  have hlt : w.heap.size ≠ rb := fun e => by
    have := (Array.getElem?_eq_some_iff.1 hr).1
    omega
  generalize hr2 : (if (t.drop r).head? = some 45 then r + 1 else r) = r2 at hr0
  have h1 := readNumber_c hr0
  replace h1 : Hid _ := h1
  have HN : Hid (∀ b, decide (0 < (dgOf (t.drop r2)).length) = b → ro = if b = true then some (⟨112, if (t.drop r).head? = some 45 then - valOf (dgOf (t.drop r2)) else valOf (dgOf (t.drop r2)), 0⟩, (t.drop r2).drop (dgOf (t.drop r2)).length) else none) := by
    intro b hb
    rw [HO.out]
    by_cases h5 : (t.drop r).head? = some 45
    · rw [if_pos h5] at hr2 ⊢
      rw [if_pos h5, List.tail_drop, hr2]
      cases b with
      | false => rw [rdNum_no hb]; rfl
      | true => rw [rdNum_yes hb]; rfl
    · rw [if_neg h5] at hr2 ⊢
      rw [if_neg h5, hr2]
      unfold rdOne
      cases b with
      | false => rw [rdNum_no hb]; rfl
      | true => rw [rdNum_yes hb]; rfl
  have HV := dgv_range (t.drop r2)
  by_cases h5 : (t.drop r).head? = some 45
  · rw [decide_eq_true h5]
    simp only [if_pos h5] at HN
    clear h0 hr0 hch0 HO h5 hr2
    go_wp2_with fail
    refine Calls.mono h1.out ?_
    rintro e w1 ⟨rfl, hr1, hch⟩
    have nb1 := hch.at nb0 (by decide)
    obtain ⟨f1, f2⟩ := nb_facts nb1
    have HC : Hid (ChgT rb [71] w w1) := HC0.out.trans hch
    replace hr1 : Hid _ := hr1
    generalize decide (0 < (dgOf (t.drop r2)).length) = gd at *
    generalize valOf (dgOf (t.drop r2)) = V at *
    clear h1 hch hr nb1 nb0 HC0
    cases gd with
    | false =>
      go_wp2
      refine bodyPost_ret (v := .tuple #[cm0, .bool false]) (by simp [results, Tryz.results39, go_sem, f1]) rfl ⟨?_, ((HC.out.fresh (Nat.le_refl _) _ _).fresh (Nat.le_refl _) _ _).fresh (Nat.le_refl _) _ _⟩
      rw [HN.out _ rfl]
      rfl
    | true =>
      go_wp2
      refine bodyPost_ret (v := .tuple #[.agg #[.int .u8 112, I (-V), I 0], .bool true]) (by simp [results, Tryz.results39, go_sem, f1]) rfl ⟨?_, ((HC.out.fresh (Nat.le_refl _) _ _).fresh (Nat.le_refl _) _ _).fresh (Nat.le_refl _) _ _⟩
      rw [HN.out _ rfl]
      exact ⟨rfl, _, ((hr1.out.other hlt _ _).other hlt _ _).other hlt _ _, by rw [List.drop_drop]⟩
  · rw [decide_eq_false h5]
    simp only [if_neg h5] at HN
    clear h0 hr0 hch0 HO h5 hr2
    go_wp2_with fail
    refine Calls.mono h1.out ?_
    rintro e w1 ⟨rfl, hr1, hch⟩
    have nb1 := hch.at nb0 (by decide)
    obtain ⟨f1, f2⟩ := nb_facts nb1
    have HC : Hid (ChgT rb [71] w w1) := HC0.out.trans hch
    replace hr1 : Hid _ := hr1
    generalize decide (0 < (dgOf (t.drop r2)).length) = gd at *
    generalize valOf (dgOf (t.drop r2)) = V at *
    clear h1 hch hr nb1 nb0 HC0
    cases gd with
    | false =>
      go_wp2
      refine bodyPost_ret (v := .tuple #[cm0, .bool false]) (by simp [results, Tryz.results39, go_sem, f1]) rfl ⟨?_, ((HC.out.fresh (Nat.le_refl _) _ _).fresh (Nat.le_refl _) _ _).fresh (Nat.le_refl _) _ _⟩
      rw [HN.out _ rfl]
      rfl
    | true =>
      go_wp2
      refine bodyPost_ret (v := .tuple #[.agg #[.int .u8 112, I V, I 0], .bool true]) (by simp [results, Tryz.results39, go_sem, f1]) rfl ⟨?_, ((HC.out.fresh (Nat.le_refl _) _ _).fresh (Nat.le_refl _) _ _).fresh (Nat.le_refl _) _ _⟩
      rw [HN.out _ rfl]
      exact ⟨rfl, _, ((hr1.out.other hlt _ _).other hlt _ _).other hlt _ _, by rw [List.drop_drop]⟩

set_option maxHeartbeats 8000000 in
set_option maxRecDepth 100000 in
theorem readTwo_c {w : World} {rb r : Nat} {t : List UInt8} (h : RdAt w rb t r) (c : UInt8) : Calls Tryz.prog 40 #[.pointer (some ⟨rb, 0, none⟩), .int .u8 c.toNat] w fun e w' => CmRet rb t (rdTwo c (t.drop r)) e w' ∧ ChgT rb [71] w w' := by
  have HO : Hid (rdTwo c (t.drop r) = (rdNum (t.drop r)).bind fun x => if x.2.head? = some 44 then (rdNum x.2.tail).map fun y => (⟨c, x.1, y.1⟩, y.2) else none) := rfl
  have h1 := fun W (hw : Below w.heap.size w W) => readNumber_c (h.below hw)
  replace h1 : Hid _ := h1
  generalize rdTwo c (t.drop r) = ro at *
  have hr := h.blk
  clear h
  go_enter Tryz.func40, Tryz.ntmps40
  go_wp2_with fail
  refine Calls.mono (h1.out _ ((Below.refl _ _).alloc (Nat.le_refl _) _)) ?_
  rintro e w1 ⟨rfl, hr1, hch⟩
  have nb1 := hch.at (nb_alloc _ _ _) (by decide)
  obtain ⟨f1, f2⟩ := nb_facts nb1
  have HC : Hid (ChgT rb [71] w w1) := (ChgT.of_below ((Below.refl _ _).alloc (Nat.le_refl _) _)).trans hch
  have hlt : w.heap.size ≠ rb := fun e => by
    have := (Array.getElem?_eq_some_iff.1 hr).1
    omega
  have HV := dgv_range (t.drop r)
  cases hg : decide (0 < (dgOf (t.drop r)).length) with
  | false =>
    have HN : Hid (ro = none) := by show _ = _; rw [HO.out, rdNum_no hg]; rfl
    generalize valOf (dgOf (t.drop r)) = V at *
    clear h1 hch HO hr nb1 hr1 hg
    go_wp2
    refine bodyPost_ret (v := .tuple #[cm0, .bool false]) (by simp [results, Tryz.results40, go_sem, f1]) rfl ⟨?_, ((HC.out.fresh (Nat.le_refl _) _ _).fresh (Nat.le_refl _) _ _).fresh (Nat.le_refl _) _ _⟩
    rw [HN.out]
    rfl
  | true =>
    have HN : Hid (ro = if (t.drop (r + (dgOf (t.drop r)).length)).head? = some 44 then (rdNum (t.drop (r + (dgOf (t.drop r)).length + 1))).map fun y => (⟨c, valOf (dgOf (t.drop r)), y.1⟩, y.2) else none) := by
      show _ = _
      rw [HO.out, rdNum_yes hg]
      simp only [Option.bind_some, List.drop_drop, List.tail_drop]
    have h2 := skip_c hr1 44
    generalize valOf (dgOf (t.drop r)) = V at *
    generalize r + (dgOf (t.drop r)).length = r1 at *
    replace h2 : Hid _ := h2
    clear h1 hch HO hr hr1 hg f1 f2
    go_wp2_with fail
    refine Calls.mono h2.out ?_
    rintro e w2 ⟨rfl, hr2, hch2⟩
    have nb2 := hch2.at nb1 (by decide)
    replace HC : Hid (ChgT rb [71] w w2) := HC.out.trans hch2
    obtain ⟨f1, f2⟩ := nb_facts nb2
    by_cases h4 : (t.drop r1).head? = some 44
    · rw [decide_eq_true h4]
      rw [if_pos h4] at hr2 HN
      have h3 := readNumber_c hr2
      replace h3 : Hid _ := h3
      clear h2 hch2 hr2 nb1 h4 f1 f2
      go_wp2_with fail
      refine Calls.mono h3.out ?_
      rintro e w3 ⟨rfl, hr3, hch3⟩
      have nb3 := hch3.at nb2 (by decide)
      obtain ⟨f1, f2⟩ := nb_facts nb3
      replace HC : Hid (ChgT rb [71] w w3) := HC.out.trans hch3
      have HM : Hid (∀ b, decide (0 < (dgOf (t.drop (r1 + 1))).length) = b → ro = if b = true then some (⟨c, V, valOf (dgOf (t.drop (r1 + 1)))⟩, (t.drop (r1 + 1)).drop (dgOf (t.drop (r1 + 1))).length) else none) := by
        intro b hb
        rw [HN.out]
        cases b with
        | false => rw [rdNum_no hb]; rfl
        | true => rw [rdNum_yes hb]; rfl
      have HV2 := dgv_range (t.drop (r1 + 1))
      replace hr3 : Hid _ := hr3
      generalize decide (0 < (dgOf (t.drop (r1 + 1))).length) = gd at *
      generalize valOf (dgOf (t.drop (r1 + 1))) = V2 at *
      clear h3 hch3 nb2 nb3 HN
      cases gd with
      | false =>
        go_wp2
        refine bodyPost_ret (v := .tuple #[cm0, .bool false]) (by simp [results, Tryz.results40, go_sem, f1]) rfl ⟨?_, ((HC.out.fresh (Nat.le_refl _) _ _).fresh (Nat.le_refl _) _ _).fresh (Nat.le_refl _) _ _⟩
        rw [HM.out _ rfl]
        rfl
      | true =>
        go_wp2
        refine bodyPost_ret (v := .tuple #[.agg #[.int .u8 c.toNat, I V, I V2], .bool true]) (by simp [results, Tryz.results40, go_sem, f1]) rfl ⟨?_, ((HC.out.fresh (Nat.le_refl _) _ _).fresh (Nat.le_refl _) _ _).fresh (Nat.le_refl _) _ _⟩
        rw [HM.out _ rfl]
        exact ⟨rfl, _, ((hr3.out.other hlt _ _).other hlt _ _).other hlt _ _, by rw [List.drop_drop]⟩
    · rw [decide_eq_false h4]
      rw [if_neg h4] at HN
      clear h2 hch2 hr2 nb1 h4
      go_wp2
      refine bodyPost_ret (v := .tuple #[cm0, .bool false]) (by simp [results, Tryz.results40, go_sem, f1]) rfl ⟨?_, ((HC.out.fresh (Nat.le_refl _) _ _).fresh (Nat.le_refl _) _ _).fresh (Nat.le_refl _) _ _⟩
      rw [HN.out]
      rfl

theorem CmRet.form {rb : Nat} {t : List UInt8} {o : Option (Cm × List UInt8)} {e : Ending} {w' : World} (h : CmRet rb t o e w') : ∃ (x : Cm) (g : Bool), e = .returned (.tuple #[.agg #[.int .u8 x.ch.toNat, I x.a, I x.b], .bool g]) ∧ (e = .returned (.tuple #[.agg #[.int .u8 x.ch.toNat, I x.a, I x.b], .bool g]) → CmRet rb t o e w') := by
  cases o with
  | none => exact ⟨⟨0, 0, 0⟩, false, h, fun _ => h⟩
  | some x => exact ⟨x.1, true, h.1, fun _ => h⟩
theorem CmRet.other {rb : Nat} {t : List UInt8} {o : Option (Cm × List UInt8)} {e : Ending} {w' : World} (h : CmRet rb t o e w') {k : Nat} (hk : k ≠ rb) (j : Nat) (x : Value) : CmRet rb t o e (w'.setCell ⟨k, j, none⟩ x) := by
  cases o with
  | none => exact h
  | some y =>
    obtain ⟨h1, r', h2, h3⟩ := h
    exact ⟨h1, r', h2.other hk j x, h3⟩

end Go.Proofs.YtjnmpejcegmkhaaGreatDoor

namespace Go.Proofs.YtjnmpejcegmkhaaGreatDoor
open Go.RowKit

theorem rdCm_flat {c : UInt8} {r : List UInt8} (h : c = 105 ∨ c = 103 ∨ c = 108) : rdCm (c :: r) = some (⟨c, 0, 0⟩, r) := by simp only [rdCm]; rw [if_pos h]
theorem rdCm_put {r : List UInt8} : rdCm (112 :: r) = rdPut r := by simp only [rdCm]; rw [if_neg (by decide), if_pos trivial]
theorem rdCm_one {c : UInt8} {r : List UInt8} (h : c = 102 ∨ c = 117 ∨ c = 113) : rdCm (c :: r) = rdOne c r := by
  simp only [rdCm]
  rw [if_neg (by rcases h with rfl | rfl | rfl <;> decide), if_neg (by rcases h with rfl | rfl | rfl <;> decide), if_pos h]
theorem rdCm_two {c : UInt8} {r : List UInt8} (h : c = 115 ∨ c = 114) : rdCm (c :: r) = rdTwo c r := by
  simp only [rdCm]
  rw [if_neg (by rcases h with rfl | rfl <;> decide), if_neg (by rcases h with rfl | rfl <;> decide), if_neg (by rcases h with rfl | rfl <;> decide), if_pos h]
theorem rdCm_odd {c : UInt8} {r : List UInt8} (h : ¬ (c = 105 ∨ c = 103 ∨ c = 108)) (h1 : c ≠ 112) (h2 : ¬ (c = 102 ∨ c = 117 ∨ c = 113)) (h3 : ¬ (c = 115 ∨ c = 114)) : rdCm (c :: r) = none := by
  simp only [rdCm]
  rw [if_neg h, if_neg h1, if_neg h2, if_neg h3]
theorem u8_ne {c : UInt8} {k : UInt8} (h : c ≠ k) : ((c.toNat : Int) == (k.toNat : Int)) = false := by
  rw [beq_eq_false_iff_ne]
  intro e
  exact h (UInt8.toNat_inj.1 (by omega))

set_option maxHeartbeats 8000000 in
set_option maxRecDepth 100000 in
theorem readCommand_c {w : World} {rb r : Nat} {t : List UInt8} (h : RdAt w rb t r) : Calls Tryz.prog 19 #[.pointer (some ⟨rb, 0, none⟩)] w fun e w' => CmRet rb t (rdCm (t.drop r)) e w' ∧ ChgT rb [71] w w' := by
  have hle := h.le
  have hlen := h.len
  have hrl := (Array.getElem?_eq_some_iff.1 h.blk).1
  have hlt : w.heap.size ≠ rb := by omega
  have hba : ∀ o, Below w.heap.size w (w.alloc o) := fun o => (Below.refl _ _).alloc (Nat.le_refl _) o
  by_cases hr : r < t.length
  · have hd : t.drop r = t[r] :: t.drop (r + 1) := List.drop_eq_getElem_cons hr
    have hx : ((⟨t.toArray⟩ : ByteArray)[r]'hr).toNat = (t[r]).toNat := rfl
    have b1 : decide (t.length ≤ r) = false := by simp; omega
    rw [hd]
    generalize t[r] = ch at *
    -- the world in which the letter has been read
    have HP : Hid (∀ o n, RdAt (((w.alloc o).drewN n).setCell ⟨rb, 1, none⟩ (I ((r : Int) + 1))) rb t (r + 1) ∧ ChgT rb [71] w (((w.alloc o).drewN n).setCell ⟨rb, 1, none⟩ (I ((r : Int) + 1)))) := by
      intro o n
      have h1 := h.below ((hba o).trans ((Below.drewN' (Below.refl _ _) n).mono (hba o).size))
      have h2 := h1.put hr
      exact ⟨h2.1, (ChgT.of_below ((hba o).trans ((Below.drewN' (Below.refl _ _) n).mono (hba o).size))).trans h2.2⟩
    have HB : Hid (∀ arr T n, (((w.alloc (.cells arr T)).drewN n).setCell ⟨rb, 1, none⟩ (I ((r : Int) + 1))).heap[w.heap.size]? = some (.cells arr T (0, 0))) := by
      intro arr T n
      rw [Below.heap_setCell _ _ _ _ hlt]
      exact nb_alloc w arr T
    obtain ⟨f1, f2⟩ := nb_facts h.blk
    have c0 := f1 0
    have c1 := f1 1
    simp at c0 c1
    have z1 := f2 1
    clear hd h f1 f2
    by_cases h1 : ch = 105 ∨ ch = 103 ∨ ch = 108
    · rcases h1 with rfl | rfl | rfl
      · have hx' : ((⟨t.toArray⟩ : ByteArray)[r]'hr).toNat = 105 := hx
        have HN : Hid (rdCm (105 :: t.drop (r + 1)) = some (⟨105, 0, 0⟩, t.drop (r + 1))) := rdCm_flat (by decide)
        generalize rdCm (105 :: t.drop (r + 1)) = ro at *
        clear hx HB
        go_enter Tryz.func19, Tryz.ntmps19
        go_wp2_with fail
        go_quiet (fail)
        go_wp2_with fail
        go_quiet (fail)
        go_wp2
        refine bodyPost_ret (v := .tuple #[.agg #[.int .u8 105, I 0, I 0], .bool true]) (by simp [results, Tryz.results19, go_sem]) rfl ⟨?_, (((HP.out _ _).2.fresh (Nat.le_refl _) _ _).fresh (Nat.le_refl _) _ _).fresh (Nat.le_refl _) _ _⟩
        rw [HN.out]
        exact ⟨rfl, r + 1, (((HP.out _ _).1.other hlt _ _).other hlt _ _).other hlt _ _, rfl⟩
      · have hx' : ((⟨t.toArray⟩ : ByteArray)[r]'hr).toNat = 103 := hx
        have HN : Hid (rdCm (103 :: t.drop (r + 1)) = some (⟨103, 0, 0⟩, t.drop (r + 1))) := rdCm_flat (by decide)
        generalize rdCm (103 :: t.drop (r + 1)) = ro at *
        clear hx HB
        go_enter Tryz.func19, Tryz.ntmps19
        go_wp2_with fail
        go_quiet (fail)
        go_wp2_with fail
        go_quiet (fail)
        go_wp2
        refine bodyPost_ret (v := .tuple #[.agg #[.int .u8 103, I 0, I 0], .bool true]) (by simp [results, Tryz.results19, go_sem]) rfl ⟨?_, (((HP.out _ _).2.fresh (Nat.le_refl _) _ _).fresh (Nat.le_refl _) _ _).fresh (Nat.le_refl _) _ _⟩
        rw [HN.out]
        exact ⟨rfl, r + 1, (((HP.out _ _).1.other hlt _ _).other hlt _ _).other hlt _ _, rfl⟩
      · have hx' : ((⟨t.toArray⟩ : ByteArray)[r]'hr).toNat = 108 := hx
        have HN : Hid (rdCm (108 :: t.drop (r + 1)) = some (⟨108, 0, 0⟩, t.drop (r + 1))) := rdCm_flat (by decide)
        generalize rdCm (108 :: t.drop (r + 1)) = ro at *
        clear hx HB
        go_enter Tryz.func19, Tryz.ntmps19
        go_wp2_with fail
        go_quiet (fail)
        go_wp2_with fail
        go_quiet (fail)
        go_wp2
        refine bodyPost_ret (v := .tuple #[.agg #[.int .u8 108, I 0, I 0], .bool true]) (by simp [results, Tryz.results19, go_sem]) rfl ⟨?_, (((HP.out _ _).2.fresh (Nat.le_refl _) _ _).fresh (Nat.le_refl _) _ _).fresh (Nat.le_refl _) _ _⟩
        rw [HN.out]
        exact ⟨rfl, r + 1, (((HP.out _ _).1.other hlt _ _).other hlt _ _).other hlt _ _, rfl⟩
    by_cases h2 : ch = 112
    · subst h2
      have hx' : ((⟨t.toArray⟩ : ByteArray)[r]'hr).toNat = 112 := hx
      rw [rdCm_put]
      have HK := fun o n => readPut_c (HP.out o n).1
      replace HK : Hid _ := HK
      clear hx
      go_enter Tryz.func19, Tryz.ntmps19
      go_wp2_with fail
      go_quiet (fail)
      go_wp2_with fail
      go_quiet (fail)
      go_wp2_with fail
      refine Calls.mono (HK.out _ _) ?_
      rintro e w1 ⟨hcm, hch⟩
      obtain ⟨x, g, rfl, _⟩ := hcm.form
      have nb1 := hch.at (HB.out _ _ _) (by decide)
      obtain ⟨f1, f2⟩ := nb_facts nb1
      have HC : Hid _ := (HP.out _ _).2.trans hch
      replace hcm : Hid _ := hcm
      clear hch HK HP HB nb1
      go_wp2
      refine bodyPost_ret (v := .tuple #[.agg #[.int .u8 x.ch.toNat, I x.a, I x.b], .bool g]) (by simp [results, Tryz.results19, go_sem, f1]) rfl ⟨CmRet.other (CmRet.other (CmRet.other hcm.out hlt _ _) hlt _ _) hlt _ _, ((HC.out.fresh (Nat.le_refl _) _ _).fresh (Nat.le_refl _) _ _).fresh (Nat.le_refl _) _ _⟩
    by_cases h3 : ch = 102 ∨ ch = 117 ∨ ch = 113
    · rcases h3 with rfl | rfl | rfl
      · have hx' : ((⟨t.toArray⟩ : ByteArray)[r]'hr).toNat = 102 := hx
        rw [rdCm_one (by decide)]
        have HK := fun o n => readOne_c (HP.out o n).1 102 (by decide)
        replace HK : Hid _ := HK
        clear hx
        go_enter Tryz.func19, Tryz.ntmps19
        go_wp2_with fail
        go_quiet (fail)
        go_wp2_with fail
        go_quiet (fail)
        go_wp2_with fail
        refine Calls.mono (HK.out _ _) ?_
        rintro e w1 ⟨hcm, hch⟩
        obtain ⟨x, g, rfl, _⟩ := hcm.form
        have nb1 := hch.at (HB.out _ _ _) (by decide)
        obtain ⟨f1, f2⟩ := nb_facts nb1
        have HC : Hid _ := (HP.out _ _).2.trans hch
        replace hcm : Hid _ := hcm
        clear hch HK HP HB nb1
        go_wp2
        refine bodyPost_ret (v := .tuple #[.agg #[.int .u8 x.ch.toNat, I x.a, I x.b], .bool g]) (by simp [results, Tryz.results19, go_sem, f1]) rfl ⟨CmRet.other (CmRet.other (CmRet.other hcm.out hlt _ _) hlt _ _) hlt _ _, ((HC.out.fresh (Nat.le_refl _) _ _).fresh (Nat.le_refl _) _ _).fresh (Nat.le_refl _) _ _⟩
      · have hx' : ((⟨t.toArray⟩ : ByteArray)[r]'hr).toNat = 117 := hx
        rw [rdCm_one (by decide)]
        have HK := fun o n => readOne_c (HP.out o n).1 117 (by decide)
        replace HK : Hid _ := HK
        clear hx
        go_enter Tryz.func19, Tryz.ntmps19
        go_wp2_with fail
        go_quiet (fail)
        go_wp2_with fail
        go_quiet (fail)
        go_wp2_with fail
        refine Calls.mono (HK.out _ _) ?_
        rintro e w1 ⟨hcm, hch⟩
        obtain ⟨x, g, rfl, _⟩ := hcm.form
        have nb1 := hch.at (HB.out _ _ _) (by decide)
        obtain ⟨f1, f2⟩ := nb_facts nb1
        have HC : Hid _ := (HP.out _ _).2.trans hch
        replace hcm : Hid _ := hcm
        clear hch HK HP HB nb1
        go_wp2
        refine bodyPost_ret (v := .tuple #[.agg #[.int .u8 x.ch.toNat, I x.a, I x.b], .bool g]) (by simp [results, Tryz.results19, go_sem, f1]) rfl ⟨CmRet.other (CmRet.other (CmRet.other hcm.out hlt _ _) hlt _ _) hlt _ _, ((HC.out.fresh (Nat.le_refl _) _ _).fresh (Nat.le_refl _) _ _).fresh (Nat.le_refl _) _ _⟩
      · have hx' : ((⟨t.toArray⟩ : ByteArray)[r]'hr).toNat = 113 := hx
        rw [rdCm_one (by decide)]
        have HK := fun o n => readOne_c (HP.out o n).1 113 (by decide)
        replace HK : Hid _ := HK
        clear hx
        go_enter Tryz.func19, Tryz.ntmps19
        go_wp2_with fail
        go_quiet (fail)
        go_wp2_with fail
        go_quiet (fail)
        go_wp2_with fail
        refine Calls.mono (HK.out _ _) ?_
        rintro e w1 ⟨hcm, hch⟩
        obtain ⟨x, g, rfl, _⟩ := hcm.form
        have nb1 := hch.at (HB.out _ _ _) (by decide)
        obtain ⟨f1, f2⟩ := nb_facts nb1
        have HC : Hid _ := (HP.out _ _).2.trans hch
        replace hcm : Hid _ := hcm
        clear hch HK HP HB nb1
        go_wp2
        refine bodyPost_ret (v := .tuple #[.agg #[.int .u8 x.ch.toNat, I x.a, I x.b], .bool g]) (by simp [results, Tryz.results19, go_sem, f1]) rfl ⟨CmRet.other (CmRet.other (CmRet.other hcm.out hlt _ _) hlt _ _) hlt _ _, ((HC.out.fresh (Nat.le_refl _) _ _).fresh (Nat.le_refl _) _ _).fresh (Nat.le_refl _) _ _⟩
    by_cases h4 : ch = 115 ∨ ch = 114
    · rcases h4 with rfl | rfl
      · have hx' : ((⟨t.toArray⟩ : ByteArray)[r]'hr).toNat = 115 := hx
        rw [rdCm_two (by decide)]
        have HK := fun o n => readTwo_c (HP.out o n).1 115
        replace HK : Hid _ := HK
        clear hx
        go_enter Tryz.func19, Tryz.ntmps19
        go_wp2_with fail
        go_quiet (fail)
        go_wp2_with fail
        go_quiet (fail)
        go_wp2_with fail
        refine Calls.mono (HK.out _ _) ?_
        rintro e w1 ⟨hcm, hch⟩
        obtain ⟨x, g, rfl, _⟩ := hcm.form
        have nb1 := hch.at (HB.out _ _ _) (by decide)
        obtain ⟨f1, f2⟩ := nb_facts nb1
        have HC : Hid _ := (HP.out _ _).2.trans hch
        replace hcm : Hid _ := hcm
        clear hch HK HP HB nb1
        go_wp2
        refine bodyPost_ret (v := .tuple #[.agg #[.int .u8 x.ch.toNat, I x.a, I x.b], .bool g]) (by simp [results, Tryz.results19, go_sem, f1]) rfl ⟨CmRet.other (CmRet.other (CmRet.other hcm.out hlt _ _) hlt _ _) hlt _ _, ((HC.out.fresh (Nat.le_refl _) _ _).fresh (Nat.le_refl _) _ _).fresh (Nat.le_refl _) _ _⟩
      · have hx' : ((⟨t.toArray⟩ : ByteArray)[r]'hr).toNat = 114 := hx
        rw [rdCm_two (by decide)]
        have HK := fun o n => readTwo_c (HP.out o n).1 114
        replace HK : Hid _ := HK
        clear hx
        go_enter Tryz.func19, Tryz.ntmps19
        go_wp2_with fail
        go_quiet (fail)
        go_wp2_with fail
        go_quiet (fail)
        go_wp2_with fail
        refine Calls.mono (HK.out _ _) ?_
        rintro e w1 ⟨hcm, hch⟩
        obtain ⟨x, g, rfl, _⟩ := hcm.form
        have nb1 := hch.at (HB.out _ _ _) (by decide)
        obtain ⟨f1, f2⟩ := nb_facts nb1
        have HC : Hid _ := (HP.out _ _).2.trans hch
        replace hcm : Hid _ := hcm
        clear hch HK HP HB nb1
        go_wp2
        refine bodyPost_ret (v := .tuple #[.agg #[.int .u8 x.ch.toNat, I x.a, I x.b], .bool g]) (by simp [results, Tryz.results19, go_sem, f1]) rfl ⟨CmRet.other (CmRet.other (CmRet.other hcm.out hlt _ _) hlt _ _) hlt _ _, ((HC.out.fresh (Nat.le_refl _) _ _).fresh (Nat.le_refl _) _ _).fresh (Nat.le_refl _) _ _⟩
    have HN : Hid (rdCm (ch :: t.drop (r + 1)) = none) := rdCm_odd h1 h2 h3 h4
    generalize rdCm (ch :: t.drop (r + 1)) = ro at *
    simp only [not_or] at h1 h3 h4
    have q1 : ((ch.toNat : Int) == 105) = false := u8_ne h1.1
    have q2 : ((ch.toNat : Int) == 103) = false := u8_ne h1.2.1
    have q3 : ((ch.toNat : Int) == 108) = false := u8_ne h1.2.2
    have q4 : ((ch.toNat : Int) == 112) = false := u8_ne h2
    have q5 : ((ch.toNat : Int) == 102) = false := u8_ne h3.1
    have q6 : ((ch.toNat : Int) == 117) = false := u8_ne h3.2.1
    have q7 : ((ch.toNat : Int) == 113) = false := u8_ne h3.2.2
    have q8 : ((ch.toNat : Int) == 115) = false := u8_ne h4.1
    have q9 : ((ch.toNat : Int) == 114) = false := u8_ne h4.2
    generalize ch.toNat = n at *
    clear h1 h2 h3 h4 HB
    go_enter Tryz.func19, Tryz.ntmps19
    go_wp2_with fail
    go_quiet (fail)
    go_wp2_with fail
    go_quiet (fail)
    go_wp2
    refine bodyPost_ret (v := .tuple #[cm0, .bool false]) (by simp [results, Tryz.results19, go_sem]) rfl ⟨?_, (((HP.out _ _).2.fresh (Nat.le_refl _) _ _).fresh (Nat.le_refl _) _ _).fresh (Nat.le_refl _) _ _⟩
    rw [HN.out]
    rfl
  · have hd : t.drop r = [] := List.drop_eq_nil_of_le (by omega)
    have b1 : decide (t.length ≤ r) = true := by simp; omega
    have HN : Hid (rdCm (t.drop r) = none) := by show _ = _; rw [hd]; rfl
    obtain ⟨f1, f2⟩ := nb_facts h.blk
    have c0 := f1 0
    have c1 := f1 1
    simp at c0 c1
    generalize rdCm (t.drop r) = ro at *
    clear hd h f1 f2
    go_enter Tryz.func19, Tryz.ntmps19
    go_wp2_with fail
    go_quiet (fail)
    go_wp2
    have HC : ∀ n, Hid (ChgT rb [71] w ((w.alloc (.cells #[.int .u8 0, .int .i64 0, .int .i64 0] 46)).drewN n)) := fun n => ChgT.of_below (Below.drewN' (hba _) n)
    refine bodyPost_ret (v := .tuple #[cm0, .bool false]) (by simp [results, Tryz.results19, go_sem]) rfl ⟨?_, (((HC _).out.fresh (Nat.le_refl _) _ _).fresh (Nat.le_refl _) _ _).fresh (Nat.le_refl _) _ _⟩
    rw [HN.out]
    rfl

end Go.Proofs.YtjnmpejcegmkhaaGreatDoor

namespace Go.Proofs.YtjnmpejcegmkhaaGreatDoor
open Go.RowKit

def lenOf : Value → Nat
  | .slice _ n _ => n
  | _ => 0
/-- Commands in memory, one behind the other. -/
def cmCs : List Cm → List Value
  | [] => []
  | c :: r => .int .u8 c.ch.toNat :: I c.a :: I c.b :: cmCs r
theorem cmCs_app (a : List Cm) (c : Cm) : cmCs (a ++ [c]) = cmCs a ++ [.int .u8 c.ch.toNat, I c.a, I c.b] := by
  induction a with
  | nil => rfl
  | cons x a ih => simp [cmCs, ih]
theorem cmCs_at : ∀ (l : List Cm) (i : Nat) (hi : i < l.length), (cmCs l)[3 * i]? = some (.int .u8 (l[i]).ch.toNat) ∧ (cmCs l)[3 * i + 1]? = some (I (l[i]).a) ∧ (cmCs l)[3 * i + 2]? = some (I (l[i]).b)
  | c :: r, 0, _ => ⟨rfl, rfl, rfl⟩
  | c :: r, i + 1, hi => by
    have := cmCs_at r i (by simp at hi; omega)
    simpa [cmCs, Nat.mul_add, Nat.add_right_comm] using this

theorem rdNum_len {l : List UInt8} {x : Int × List UInt8} (h : rdNum l = some x) : x.2.length ≤ l.length := by
  unfold rdNum at h
  split at h
  · simp at h
  · simp at h
    rw [← h]
    simp
theorem rdCm_len {l : List UInt8} {x : Cm × List UInt8} (h : rdCm l = some x) : x.2.length < l.length := by
  cases l with
  | nil => simp [rdCm] at h
  | cons c r =>
    have key : ∀ y : Cm × List UInt8, rdOne c r = some y → y.2.length < (c :: r).length := by
      intro y hy
      unfold rdOne at hy
      cases hn : rdNum r with
      | none => rw [hn] at hy; simp at hy
      | some z =>
        rw [hn] at hy
        have := rdNum_len hn
        simp at hy
        rw [← hy]
        simp
        omega
    simp only [rdCm] at h
    split at h
    · simp at h; rw [← h]; simp
    split at h
    · rename_i h2
      unfold rdPut at h
      split at h
      · cases hn : rdNum r.tail with
        | none => rw [hn] at h; simp at h
        | some z =>
          rw [hn] at h
          have := rdNum_len hn
          simp at h this
          rw [← h]
          simp
          omega
      · rw [← h2] at h
        exact key x h
    split at h
    · exact key x h
    split at h
    · unfold rdTwo at h
      cases hn : rdNum r with
      | none => rw [hn] at h; simp at h
      | some z =>
        rw [hn] at h
        have h1 := rdNum_len hn
        simp only [Option.bind_some] at h
        split at h
        · cases hm : rdNum z.2.tail with
          | none => rw [hm] at h; simp at h
          | some y =>
            rw [hm] at h
            have := rdNum_len hm
            simp at h this
            rw [← h]
            simp
            omega
        · simp at h
    · simp at h

theorem Tryz.info46 : (Tryz.prog.info? 46).map (fun i => (i.zero, i.size, i.bytes)) = some (some (.agg #[.int .u8 0, .int .i64 0, .int .i64 0]), 3, 24) := by kernel_rfl

/-- What readScript hands back. -/
def RsRet (b : Nat) (o : Option (List Cm)) (e : Ending) (w' : World) : Prop :=
  match o with
  | some cs => ∃ x, e = .returned (.tuple #[x, .bool true]) ∧ w'.ownsRow b 46 3 x cs.length (cmCs cs) ∧ cs.length ≤ 600
  | none => e = .returned (.tuple #[.slice none 0 0, .bool false])

set_option maxHeartbeats 8000000 in
set_option maxRecDepth 100000 in
theorem readScript_c (t : List UInt8) (w : World) (ht : t.length < 2 ^ 63) : Calls Tryz.prog 9 #[S t] w fun e w' => RsRet w.heap.size (rdText t) e w' ∧ Below w.heap.size w w' := by
  by_cases h6 : 600 < t.length
  · have HN : rdText t = none := by unfold rdText; rw [if_pos h6]
    rw [HN]
    have b1 : decide ((t.length : Int) > 600) = true := by simp; omega
    clear HN
    go_enter Tryz.func9, Tryz.ntmps9
    go_wp2
    go_ret2
    exact ⟨rfl, Below.refl _ _⟩
  have b1 : decide ((t.length : Int) > 600) = false := by simp; omega
  have HR : Hid (rdText t = if t = [] then some [] else rdAll t.length t) := by show _ = _; unfold rdText; rw [if_neg h6]
  have b2 : decide ((t.length : Int) > 0) = decide (t ≠ []) := decide_eq_decide.2 (by rw [← List.length_pos_iff]; omega)
  generalize hmo : decide (t ≠ []) = mo at *
  replace hmo : Hid _ := hmo
  generalize rdText t = ro at *
  obtain ⟨i0, hi, hz0, hz1, hz2⟩ := info_parts Tryz.info46
  go_enter Tryz.func9, Tryz.ntmps9
  go_wp2_with fail
  generalize hw0 : w.alloc (.cells #[S t, I 0] 71) = w0
  go_loopw [4, 6] (fun xx mm wr => ∃ (cs : List Cm) (r : Nat) (b : Bool), mm = .bool b ∧ Hid (RdAt wr w.heap.size t r) ∧ wr.ownsRow (w.heap.size + 1) 46 3 xx cs.length (cmCs cs) ∧ Hid (Below w.heap.size w wr) ∧ cs.length ≤ r ∧ Hid (if b = true then ∃ f, t.length - r ≤ f ∧ ro = (rdAll f (t.drop r)).map fun l => cs ++ l else ro = some cs)) (fun xx _ _ => 601 - lenOf xx)
  case atStart =>
    subst hw0
    refine ⟨[], 0, mo, ?_, ⟨nb_alloc _ _ _, Nat.zero_le _, by omega⟩, World.ownsRow_nil _ _ _ _, (Below.refl _ _).alloc (Nat.le_refl _) _, Nat.zero_le _, ?_⟩
    · rw [← b2]; first | rfl | simp
    · have h1 := HR.out
      have h2 := hmo.out
      cases mo with
      | true =>
        have : t ≠ [] := by simpa using h2
        rw [if_neg this] at h1
        exact ⟨t.length, Nat.sub_le _ _, by rw [h1, List.drop_zero]; simp⟩
      | false =>
        have : t = [] := by simpa using h2
        rw [if_pos this] at h1
        exact h1
  case round =>
    obtain ⟨cs, r, b, rfl, hr, hown, hbr, hcr, hf⟩ := hrel
    obtain ⟨ao, cp, rfl, d4, d5, d6, _⟩ := ownsRow_cells hown
    cases b with
    | false =>
      have hfo : Hid (ro = some cs) := hf.out
      have h6r := hr.out.le
      have HO : Hid _ := hown
      clear hown
      go_wp2
      go_ret2
      rw [hfo.out]
      exact ⟨⟨_, rfl, ownsRow_mono HO.out (by omega), by omega⟩, hbr.out⟩
    | true =>
      obtain ⟨f, hf1, hf2⟩ : ∃ f, t.length - r ≤ f ∧ ro = (rdAll f (t.drop r)).map fun l => cs ++ l := hf.out
      have hrc := readCommand_c hr.out
      replace hrc : Hid _ := hrc
      have h6r := hr.out.le
      have hlr := (Array.getElem?_eq_some_iff.1 hr.out.blk).1
      replace hf2 : Hid _ := hf2
      clear hf
      unfold maxLen at d5 d6
      go_wp2_with fail
      refine Calls.mono hrc.out ?_
      rintro e w1 ⟨hcm, hch⟩
      have hb1 : Hid (Below w.heap.size w w1) := hbr.out.trans (hch.below (Nat.le_of_lt hlr))
      have hown1 := hch.row hown (by decide)
      have hsz1 : wr.heap.size ≤ w1.heap.size := hch.size
      cases hro : rdCm (t.drop r) with
      | none =>
        rw [hro] at hcm
        have he : e = .returned (.tuple #[cm0, .bool false]) := hcm
        subst he
        have hnone : Hid (ro = none) := by
          show _ = _
          rw [hf2.out]
          cases f with
          | zero => rfl
          | succ f => simp [rdAll, hro]
        clear hcm hro hch hown hrc hown1 hf2
        go_wp2
        go_ret2
        rw [hnone.out]
        exact ⟨rfl, hb1.out.alloc hb1.out.size _⟩
      | some x =>
        rw [hro] at hcm
        obtain ⟨rfl, r', hr', hd'⟩ := hcm
        have hlen := rdCm_len hro
        rw [← hd'] at hlen
        simp only [List.length_drop] at hlen
        have hr'le := hr'.le
        obtain ⟨f, rfl⟩ : ∃ g, f = g + 1 := ⟨f - 1, by omega⟩
        have HF : Hid (ro = (if x.2 = [] then some [x.1] else if x.2.head? = some 59 then (rdAll f x.2.tail).map fun r => x.1 :: r else none).map fun l => cs ++ l) := by
          show _ = _
          rw [hf2.out]
          simp [rdAll, hro]
        rw [← hd'] at HF
        obtain ⟨⟨ch, a, bb⟩, rest⟩ := x
        replace hr' : Hid _ := hr'
        unfold cmV
        dsimp only at HF hd' ⊢
        clear hro hch hown hrc hf2 hd'
        go_wp2_with (at_builtin; go_must (refine wpList_append_own _ rfl _ _ 41 rfl (w.heap.size + 1) 46 i0 _ 3 24 Tryz.underlying41 hi hz0 hz1 hz2 rfl (by decide) _ _ _ rfl ((hown1.alloc _).alloc _) ⟨w1.heap.size + 1, 0, none⟩ 1 1 [.int .u8 ch.toNat, I a, I bb] rfl rfl ?c1 ?c2 ?c3 ?c4 ?c5 ?_))
        case c1 => exact cells_new_at (w1.alloc (.cells #[.int .u8 ch.toNat, I a, I bb] 46)) [.int .u8 ch.toNat, I a, I bb] 46 (w1.heap.size + 1) (by simp)
        case c2 =>
          intro u hu
          simp only [List.mem_cons, List.not_mem_nil, or_false] at hu
          rcases hu with h | h | h <;> subst h <;> rfl
        case c3 => unfold maxLen; omega
        case c4 => omega
        case c5 => simp; omega
        · intro x' w3 hown' hgrow _
          have hbg : Below (w.heap.size + 1) w1 w3 := (((Below.refl _ _).alloc (by omega) _).alloc (by simp; omega) _).grown hgrow (by simp; omega) (by
            intro j hj
            exact (hown1.lt j hj).1)
          have hr3 : RdAt w3 w.heap.size t r' := ⟨(hbg.block _ (by omega)).trans hr'.out.blk, hr'.out.le, hr'.out.len⟩
          have hb3 : Hid (Below w.heap.size w w3) := hb1.out.trans (hbg.mono (by omega))
          obtain ⟨f1, f2⟩ := nb_facts hr3.blk
          have c1 := f1 1
          simp at c1
          obtain ⟨ao3, cp3, rfl, _, _, _, _⟩ := ownsRow_cells hown'
          replace hown' : Hid _ := hown'
          have HR3 : Hid _ := hr3
          clear hgrow hown1 hbg hr' hr3 f1 f2
          by_cases hm : r' < t.length
          · have bm : decide ((r' : Int) < (t.length : Int)) = true := by simp; omega
            have hsk := skip_c HR3.out 59
            replace hsk : Hid _ := hsk
            go_wp2_with fail
            refine Calls.mono hsk.out ?_
            rintro e w4 ⟨rfl, hr4, hch4⟩
            have hb4 : Hid (Below w.heap.size w w4) := hb3.out.trans (hch4.below hb3.out.size)
            have hown4 : Hid _ := hch4.row hown'.out (by decide)
            have hne : t.drop r' ≠ [] := by
              intro e
              have := congrArg List.length e
              simp at this
              omega
            rw [if_neg hne] at HF
            by_cases h9 : (t.drop r').head? = some 59
            · rw [if_pos h9] at hr4 HF
              rw [decide_eq_true h9]
              replace hr4 : Hid _ := hr4
              clear hsk hch4 h9 hne HR3 hown' c1
              go_wp2
              refine ⟨⟨cs ++ [⟨ch, a, bb⟩], r' + 1, true, rfl, hr4.out, ?_, hb4.out, by simp; omega, ⟨f, by omega, ?_⟩⟩, ?_⟩
              · rw [List.length_append, cmCs_app]
                exact hown4.out
              · rw [HF.out, List.tail_drop, Option.map_map]
                congr 1
                funext l
                simp
              · show 601 - (cs.length + 1) < 601 - cs.length
                omega
            · rw [if_neg h9] at hr4 HF
              rw [decide_eq_false h9]
              clear hsk hch4 h9 hne HR3 hown' c1 hr4
              go_wp2
              go_ret2
              rw [HF.out]
              exact ⟨rfl, hb4.out⟩
          · have bm : decide ((r' : Int) < (t.length : Int)) = false := by simp; omega
            have he : t.drop r' = [] := List.drop_eq_nil_of_le (by omega)
            rw [if_pos he] at HF
            clear he
            go_wp2
            refine ⟨⟨cs ++ [⟨ch, a, bb⟩], r', false, rfl, HR3.out, ?_, hb3.out, by simp; omega, ?_⟩, ?_⟩
            · rw [List.length_append, cmCs_app]
              exact hown'.out
            · exact HF.out
            · show 601 - (cs.length + 1) < 601 - cs.length
              omega

end Go.Proofs.YtjnmpejcegmkhaaGreatDoor

namespace Go.Proofs.YtjnmpejcegmkhaaGreatDoor
open Go.RowKit

theorem Tryz.info9 : (Tryz.prog.info? 9).map (fun i => (i.zero, i.size, i.bytes)) = some (some (.string ⟨#[]⟩), 1, 16) := by kernel_rfl
theorem Tryz.und47 : Tryz.prog.underlying 47 = some (.slice 9) := by kernel_rfl

/-- Texts in memory, one behind the other. -/
def txCs (l : List (List UInt8)) : List Value := l.map fun t => S t
theorem txCs_app (a : List (List UInt8)) (t : List UInt8) : txCs (a ++ [t]) = txCs a ++ [S t] := by simp [txCs]

def pmV (s m : Value) : Nat := match m with
  | .bool true => (match s with | .string b => b.size + 1 | _ => 0)
  | _ => 0

set_option maxHeartbeats 8000000 in
set_option maxRecDepth 100000 in
theorem rparts_c (s : List UInt8) (hs : s.length ≤ 600) (w : World) : Calls Tryz.prog 11 #[S s] w fun e w' => ∃ x, e = .returned x ∧ w'.ownsRow w.heap.size 9 1 x (partsL s).length (txCs (partsL s)) ∧ (partsL s).length ≤ 601 ∧ Below w.heap.size w w' := by
  have HP : Hid (partsL s = if s = [] then [] else partsF (s.length + 1) s) := rfl
  obtain ⟨i0, hi, hz0, hz1, hz2⟩ := info_parts Tryz.info9
  generalize partsL s = R at *
  obtain ⟨bE, bt⟩ : ∃ y, s.isEmpty = y := ⟨_, rfl⟩
  go_enter Tryz.func11, Tryz.ntmps11
  go_wp2_with fail
  have hb0 : (!bE) = decide (s ≠ []) := by rw [← bt]; cases s <;> simp
  generalize hmo : (!bE) = mo0 at *
  replace hb0 : Hid _ := hb0
  clear hmo bt
  go_loopw [0, 3, 4, 5, 6, 7] (fun ss xx mm _ _ _ wr => ∃ (dn : List (List UInt8)) (rest : List UInt8) (mo : Bool), ss = S rest ∧ mm = .bool mo ∧ wr.ownsRow w.heap.size 9 1 xx dn.length (txCs dn) ∧ Hid (Below w.heap.size w wr) ∧ rest.length ≤ 600 ∧ dn.length ≤ 601 ∧ Hid (if mo = true then dn.length + rest.length ≤ 600 ∧ ∃ g, rest.length < g ∧ R = dn ++ partsF g rest else R = dn)) (fun ss _ mm _ _ _ _ => pmV ss mm)
  case atStart =>
    refine ⟨[], s, mo0, rfl, rfl, World.ownsRow_nil _ _ _ _, Below.refl _ _, hs, by simp, ?_⟩
    have h1 := HP.out
    have h2 := hb0.out
    cases mo0 with
    | true =>
      have : s ≠ [] := by simpa using h2
      rw [if_neg this] at h1
      exact ⟨by simpa using hs, s.length + 1, by omega, by rw [h1]; rfl⟩
    | false =>
      have : s = [] := by simpa using h2
      rw [if_pos this] at h1
      exact h1
  case round =>
    obtain ⟨dn, rest, mo, rfl, rfl, hown, hbr, hrl, hdl, hf⟩ := hrel
    obtain ⟨ao, cp, rfl, d4, d5, d6, _⟩ := ownsRow_cells hown
    cases mo with
    | false =>
      have hfo : Hid (R = dn) := hf.out
      have HO : Hid _ := hown
      clear hown
      go_wp2
      go_ret
      rw [hfo.out]
      exact ⟨_, rfl, HO.out, hdl, hbr.out⟩
    | true =>
      obtain ⟨hle, g, hg, hR⟩ : dn.length + rest.length ≤ 600 ∧ ∃ g, rest.length < g ∧ R = dn ++ partsF g rest := hf.out
      obtain ⟨g, rfl⟩ : ∃ k, g = k + 1 := ⟨g - 1, by omega⟩
      have hcut := rcut_c rest 59 (by omega) wr
      have hcl := cutL_len 59 rest
      unfold partsF at hR
      replace hR : Hid _ := hR
      replace hcut : Hid _ := hcut
      generalize hA : (cutL 59 rest).1 = a at *
      generalize hB : (cutL 59 rest).2.1 = b at *
      generalize hC : (cutL 59 rest).2.2 = ok at *
      clear hf hA hB hC
      unfold maxLen at d5 d6
      go_wp2_with fail
      refine Calls.mono hcut.out ?_
      rintro e w1 ⟨rfl, hb1⟩
      have hown1 := ownsRow_below hown hb1 (Nat.le_refl _)
      have hB1 : Hid (Below w.heap.size w w1) := hbr.out.trans (hb1.mono hbr.out.size)
      have hsz : w.heap.size ≤ w1.heap.size := hB1.out.size
      clear hown hcut
      go_wp2_with (at_builtin; go_must (refine wpList_append_own _ rfl _ _ 47 rfl w.heap.size 9 i0 _ 1 16 Tryz.und47 hi hz0 hz1 hz2 rfl (by decide) _ _ _ rfl (hown1.alloc _) ⟨w1.heap.size, 0, none⟩ 1 1 [S a] rfl rfl ?c1 ?c2 ?c3 ?c4 ?c5 ?_))
      case c1 => exact cells_new_at w1 [S a] 9 w1.heap.size (by simp)
      case c2 =>
        intro u hu
        simp only [List.mem_cons, List.not_mem_nil, or_false] at hu
        subst hu
        rfl
      case c3 => unfold maxLen; omega
      case c4 => omega
      case c5 => simp; omega
      · intro x' w3 hown' hgrow _
        have hbg : Below w.heap.size w1 w3 := ((Below.refl _ _).alloc hB1.out.size _).grown hgrow (Nat.le_trans hB1.out.size (by simp)) (by
          intro j hj
          exact (hown1.lt j hj).1)
        have hb3 : Hid (Below w.heap.size w w3) := hB1.out.trans hbg
        obtain ⟨ao3, cp3, rfl, _, _, _, _⟩ := ownsRow_cells hown'
        replace hown' : Hid _ := hown'
        clear hgrow hown1 hbg
        go_wp2
        refine ⟨⟨dn ++ [a], b, ok, rfl, rfl, ?_, hb3, by omega, by simp; omega, ?_⟩, ?_⟩
        · rw [List.length_append, txCs_app]
          exact hown'.out
        · cases ok with
          | true =>
            refine ⟨by simp; have := hcl.2.2 rfl; omega, g, by have := hcl.2.2 rfl; omega, ?_⟩
            rw [hR.out, if_pos rfl]
            simp
          | false =>
            show R = _
            rw [hR.out, if_neg (by simp)]
        · cases ok with
          | true =>
            have := hcl.2.2 rfl
            show b.length + 1 < rest.length + 1
            omega
          | false =>
            show 0 < rest.length + 1
            omega

end Go.Proofs.YtjnmpejcegmkhaaGreatDoor

namespace Go.Proofs.YtjnmpejcegmkhaaGreatDoor
open Go.RowKit

theorem hex_c (c : UInt8) (r : List UInt8) : (⟨(c :: r).toArray⟩ : ByteArray).extract 1 (r.length + 1) = ⟨r.toArray⟩ := by
  rw [S_ext]
  simp
theorem hx_c (c : UInt8) (r : List UInt8) : ((⟨(c :: r).toArray⟩ : ByteArray)[0]'(Nat.zero_lt_succ _)).toNat = c.toNat := rfl

set_option maxHeartbeats 4000000 in
set_option maxRecDepth 100000 in
theorem right_nil (w : World) : Calls Tryz.prog 12 #[S []] w fun e w' => e = .returned (.bool (rightB [])) ∧ Below w.heap.size w w' := by
  have e : rightB [] = false := rfl
  rw [e]
  clear e
  go_enter Tryz.func12, Tryz.ntmps12
  go_wp2
  go_ret
  exact ⟨rfl, Below.refl _ _⟩

set_option maxHeartbeats 4000000 in
set_option maxRecDepth 100000 in
theorem right_105 (r : List UInt8) (hr : r.length < 600) (w : World) : Calls Tryz.prog 12 #[S (105 :: r)] w fun e w' => e = .returned (.bool (r.isEmpty)) ∧ Below w.heap.size w w' := by
  have hex := hex_c 105 r
  have hx := hx_c 105 r
  go_enter Tryz.func12, Tryz.ntmps12
  go_wp2
  go_ret
  exact ⟨rfl, Below.refl _ _⟩

set_option maxHeartbeats 4000000 in
set_option maxRecDepth 100000 in
theorem right_103 (r : List UInt8) (hr : r.length < 600) (w : World) : Calls Tryz.prog 12 #[S (103 :: r)] w fun e w' => e = .returned (.bool (r.isEmpty)) ∧ Below w.heap.size w w' := by
  have hex := hex_c 103 r
  have hx := hx_c 103 r
  go_enter Tryz.func12, Tryz.ntmps12
  go_wp2
  go_ret
  exact ⟨rfl, Below.refl _ _⟩

set_option maxHeartbeats 4000000 in
set_option maxRecDepth 100000 in
theorem right_108 (r : List UInt8) (hr : r.length < 600) (w : World) : Calls Tryz.prog 12 #[S (108 :: r)] w fun e w' => e = .returned (.bool (r.isEmpty)) ∧ Below w.heap.size w w' := by
  have hex := hex_c 108 r
  have hx := hx_c 108 r
  go_enter Tryz.func12, Tryz.ntmps12
  go_wp2
  go_ret
  exact ⟨rfl, Below.refl _ _⟩

set_option maxHeartbeats 4000000 in
set_option maxRecDepth 100000 in
theorem right_112n  (w : World) : Calls Tryz.prog 12 #[S (112 :: [])] w fun e w' => e = .returned (.bool (digB [])) ∧ Below w.heap.size w w' := by
  have hex := hex_c 112 []
  have hx := hx_c 112 []
  have hc := rdigits_c [] (by simp) w
  replace hc : Hid _ := hc
  generalize digB [] = b at *
  go_enter Tryz.func12, Tryz.ntmps12
  go_wp2_with fail
  refine Calls.mono hc.out ?_
  rintro e w1 ⟨rfl, hb1⟩
  go_wp2
  go_ret
  exact ⟨rfl, hb1⟩

set_option maxHeartbeats 4000000 in
set_option maxRecDepth 100000 in
theorem right_112m (q : List UInt8) (hr : q.length < 600) (w : World) : Calls Tryz.prog 12 #[S (112 :: 45 :: q)] w fun e w' => e = .returned (.bool (digB q)) ∧ Below w.heap.size w w' := by
  have hex : (⟨(112 :: 45 :: q).toArray⟩ : ByteArray).extract 1 (q.length + 1 + 1) = ⟨(45 :: q).toArray⟩ := hex_c 112 (45 :: q)
  have hx := hx_c 112 (45 :: q)
  have hex2 := hex_c 45 q
  have hx2 := hx_c 45 q
  have hc := rdigits_c q (by omega) w
  replace hc : Hid _ := hc
  generalize digB q = b at *
  go_enter Tryz.func12, Tryz.ntmps12
  go_wp2_with fail
  refine Calls.mono hc.out ?_
  rintro e w1 ⟨rfl, hb1⟩
  go_wp2
  go_ret
  exact ⟨rfl, hb1⟩

set_option maxHeartbeats 4000000 in
set_option maxRecDepth 100000 in
theorem right_112o (x : UInt8) (q : List UInt8) (hr : q.length < 600) (h45 : x ≠ 45) (w : World) : Calls Tryz.prog 12 #[S (112 :: x :: q)] w fun e w' => e = .returned (.bool (digB (x :: q))) ∧ Below w.heap.size w w' := by
  have hex : (⟨(112 :: x :: q).toArray⟩ : ByteArray).extract 1 (q.length + 1 + 1) = ⟨(x :: q).toArray⟩ := hex_c 112 (x :: q)
  have hx := hx_c 112 (x :: q)
  have hx2 := hx_c x q
  have b45 : ((x.toNat : Int) == 45) = false := by
    rw [beq_eq_false_iff_ne]
    intro e
    exact h45 (UInt8.toNat_inj.1 (by simp; omega))
  clear h45
  have hc := rdigits_c (x :: q) (by simp; omega) w
  replace hc : Hid _ := hc
  generalize digB (x :: q) = b at *
  generalize x.toNat = xn at *
  go_enter Tryz.func12, Tryz.ntmps12
  go_wp2_with fail
  refine Calls.mono hc.out ?_
  rintro e w1 ⟨rfl, hb1⟩
  go_wp2
  go_ret
  exact ⟨rfl, hb1⟩

set_option maxHeartbeats 4000000 in
set_option maxRecDepth 100000 in
theorem right_102 (r : List UInt8) (hr : r.length < 600) (w : World) : Calls Tryz.prog 12 #[S (102 :: r)] w fun e w' => e = .returned (.bool (digB r)) ∧ Below w.heap.size w w' := by
  have hex := hex_c 102 r
  have hx := hx_c 102 r
  have hc := rdigits_c r (by omega) w
  replace hc : Hid _ := hc
  generalize digB r = b at *
  go_enter Tryz.func12, Tryz.ntmps12
  go_wp2_with fail
  refine Calls.mono hc.out ?_
  rintro e w1 ⟨rfl, hb1⟩
  go_wp2
  go_ret
  exact ⟨rfl, hb1⟩

set_option maxHeartbeats 4000000 in
set_option maxRecDepth 100000 in
theorem right_117 (r : List UInt8) (hr : r.length < 600) (w : World) : Calls Tryz.prog 12 #[S (117 :: r)] w fun e w' => e = .returned (.bool (digB r)) ∧ Below w.heap.size w w' := by
  have hex := hex_c 117 r
  have hx := hx_c 117 r
  have hc := rdigits_c r (by omega) w
  replace hc : Hid _ := hc
  generalize digB r = b at *
  go_enter Tryz.func12, Tryz.ntmps12
  go_wp2_with fail
  refine Calls.mono hc.out ?_
  rintro e w1 ⟨rfl, hb1⟩
  go_wp2
  go_ret
  exact ⟨rfl, hb1⟩

set_option maxHeartbeats 4000000 in
set_option maxRecDepth 100000 in
theorem right_113 (r : List UInt8) (hr : r.length < 600) (w : World) : Calls Tryz.prog 12 #[S (113 :: r)] w fun e w' => e = .returned (.bool (digB r)) ∧ Below w.heap.size w w' := by
  have hex := hex_c 113 r
  have hx := hx_c 113 r
  have hc := rdigits_c r (by omega) w
  replace hc : Hid _ := hc
  generalize digB r = b at *
  go_enter Tryz.func12, Tryz.ntmps12
  go_wp2_with fail
  refine Calls.mono hc.out ?_
  rintro e w1 ⟨rfl, hb1⟩
  go_wp2
  go_ret
  exact ⟨rfl, hb1⟩

set_option maxHeartbeats 4000000 in
set_option maxRecDepth 100000 in
theorem right_115 (r : List UInt8) (hr : r.length < 600) (w : World) : Calls Tryz.prog 12 #[S (115 :: r)] w fun e w' => e = .returned (.bool ((cutL 44 r).2.2 && digB (cutL 44 r).1 && digB (cutL 44 r).2.1)) ∧ Below w.heap.size w w' := by
  have hex := hex_c 115 r
  have hx := hx_c 115 r
  have hc := rcut_c r 44 (by omega) w
  have hcl := cutL_len 44 r
  replace hc : Hid _ := hc
  generalize (cutL 44 r).1 = a at *
  generalize (cutL 44 r).2.1 = b at *
  generalize (cutL 44 r).2.2 = ok at *
  have HA : Hid (∀ W, Calls Tryz.prog 29 #[S a] W fun e w' => e = .returned (.bool (digB a)) ∧ Below W.heap.size W w') := fun W => rdigits_c a (by omega) W
  have HB : Hid (∀ W, Calls Tryz.prog 29 #[S b] W fun e w' => e = .returned (.bool (digB b)) ∧ Below W.heap.size W w') := fun W => rdigits_c b (by omega) W
  generalize digB a = x at *
  generalize digB b = y at *
  clear hcl
  go_enter Tryz.func12, Tryz.ntmps12
  go_wp2_with fail
  refine Calls.mono hc.out ?_
  rintro e w1 ⟨rfl, hb1⟩
  clear hc
  go_wp2_with fail
  refine Calls.mono (HA.out _) ?_
  rintro e w2 ⟨rfl, hb2⟩
  clear HA
  go_wp2_with fail
  refine Calls.mono (HB.out _) ?_
  rintro e w3 ⟨rfl, hb3⟩
  have hb4 := hb1.trans (hb2.mono hb1.size)
  have hb5 := hb4.trans (hb3.mono hb4.size)
  replace hb5 : Hid _ := hb5
  clear hb1 hb2 hb3 hb4 HB
  cases ok
  · go_wp2
    go_ret
    exact ⟨rfl, hb5.out⟩
  · cases x
    · go_wp2
      go_ret
      exact ⟨rfl, hb5.out⟩
    · go_wp2
      go_ret
      exact ⟨by simp, hb5.out⟩

set_option maxHeartbeats 4000000 in
set_option maxRecDepth 100000 in
theorem right_114 (r : List UInt8) (hr : r.length < 600) (w : World) : Calls Tryz.prog 12 #[S (114 :: r)] w fun e w' => e = .returned (.bool ((cutL 44 r).2.2 && digB (cutL 44 r).1 && digB (cutL 44 r).2.1)) ∧ Below w.heap.size w w' := by
  have hex := hex_c 114 r
  have hx := hx_c 114 r
  have hc := rcut_c r 44 (by omega) w
  have hcl := cutL_len 44 r
  replace hc : Hid _ := hc
  generalize (cutL 44 r).1 = a at *
  generalize (cutL 44 r).2.1 = b at *
  generalize (cutL 44 r).2.2 = ok at *
  have HA : Hid (∀ W, Calls Tryz.prog 29 #[S a] W fun e w' => e = .returned (.bool (digB a)) ∧ Below W.heap.size W w') := fun W => rdigits_c a (by omega) W
  have HB : Hid (∀ W, Calls Tryz.prog 29 #[S b] W fun e w' => e = .returned (.bool (digB b)) ∧ Below W.heap.size W w') := fun W => rdigits_c b (by omega) W
  generalize digB a = x at *
  generalize digB b = y at *
  clear hcl
  go_enter Tryz.func12, Tryz.ntmps12
  go_wp2_with fail
  refine Calls.mono hc.out ?_
  rintro e w1 ⟨rfl, hb1⟩
  clear hc
  go_wp2_with fail
  refine Calls.mono (HA.out _) ?_
  rintro e w2 ⟨rfl, hb2⟩
  clear HA
  go_wp2_with fail
  refine Calls.mono (HB.out _) ?_
  rintro e w3 ⟨rfl, hb3⟩
  have hb4 := hb1.trans (hb2.mono hb1.size)
  have hb5 := hb4.trans (hb3.mono hb4.size)
  replace hb5 : Hid _ := hb5
  clear hb1 hb2 hb3 hb4 HB
  cases ok
  · go_wp2
    go_ret
    exact ⟨rfl, hb5.out⟩
  · cases x
    · go_wp2
      go_ret
      exact ⟨rfl, hb5.out⟩
    · go_wp2
      go_ret
      exact ⟨by simp, hb5.out⟩

set_option maxHeartbeats 4000000 in
set_option maxRecDepth 100000 in
theorem right_no (c : UInt8) (r : List UInt8) (hr : r.length < 600) (h : ¬ (c = 105 ∨ c = 103 ∨ c = 108) ∧ c ≠ 112 ∧ ¬ (c = 102 ∨ c = 117 ∨ c = 113) ∧ ¬ (c = 115 ∨ c = 114)) (w : World) : Calls Tryz.prog 12 #[S (c :: r)] w fun e w' => e = .returned (.bool (false)) ∧ Below w.heap.size w w' := by
  have hex := hex_c c r
  have hx := hx_c c r
  have ne : ∀ d : Nat, d < 256 → c ≠ UInt8.ofNat d → ((c.toNat : Int) == (d : Int)) = false := by
    intro d hd hne
    rw [beq_eq_false_iff_ne]
    intro e
    apply hne
    apply UInt8.toNat_inj.1
    simp
    omega
  simp only [not_or] at h
  obtain ⟨h1, h2, h3, h4⟩ := h
  have n1 : ((c.toNat : Int) == 105) = false := ne 105 (by omega) h1.1
  have n2 : ((c.toNat : Int) == 103) = false := ne 103 (by omega) h1.2.1
  have n3 : ((c.toNat : Int) == 108) = false := ne 108 (by omega) h1.2.2
  have n4 : ((c.toNat : Int) == 112) = false := ne 112 (by omega) h2
  have n5 : ((c.toNat : Int) == 102) = false := ne 102 (by omega) h3.1
  have n6 : ((c.toNat : Int) == 117) = false := ne 117 (by omega) h3.2.1
  have n7 : ((c.toNat : Int) == 113) = false := ne 113 (by omega) h3.2.2
  have n8 : ((c.toNat : Int) == 115) = false := ne 115 (by omega) h4.1
  have n9 : ((c.toNat : Int) == 114) = false := ne 114 (by omega) h4.2
  clear h1 h2 h3 h4 ne
  generalize c.toNat = cn at *
  go_enter Tryz.func12, Tryz.ntmps12
  go_wp2
  go_ret
  exact ⟨rfl, Below.refl _ _⟩

theorem rright_c (p : List UInt8) (hp : p.length ≤ 600) (w : World) : Calls Tryz.prog 12 #[S p] w fun e w' => e = .returned (.bool (rightB p)) ∧ Below w.heap.size w w' := by
  cases p with
  | nil => exact right_nil w
  | cons c r =>
    have hr : r.length < 600 := by simp at hp; omega
    have e1 : rightB (c :: r) = (if c = 105 ∨ c = 103 ∨ c = 108 then r.isEmpty else if c = 112 then digB (restP r) else if c = 102 ∨ c = 117 ∨ c = 113 then digB r else if c = 115 ∨ c = 114 then (cutL 44 r).2.2 && digB (cutL 44 r).1 && digB (cutL 44 r).2.1 else false) := rfl
    rw [e1]
    by_cases h1 : c = 105 ∨ c = 103 ∨ c = 108
    · rw [if_pos h1]
      rcases h1 with rfl | rfl | rfl
      · exact right_105 r hr w
      · exact right_103 r hr w
      · exact right_108 r hr w
    rw [if_neg h1]
    by_cases h2 : c = 112
    · rw [if_pos h2]
      subst h2
      cases r with
      | nil => exact right_112n w
      | cons x q =>
        have hq : q.length < 600 := by simp at hr; omega
        by_cases h45 : x = 45
        · subst h45
          exact right_112m q hq w
        · have e : restP (x :: q) = x :: q := by
            unfold restP
            rw [if_neg (by simpa using h45)]
          rw [e]
          exact right_112o x q hq h45 w
    rw [if_neg h2]
    by_cases h3 : c = 102 ∨ c = 117 ∨ c = 113
    · rw [if_pos h3]
      rcases h3 with rfl | rfl | rfl
      · exact right_102 r hr w
      · exact right_117 r hr w
      · exact right_113 r hr w
    rw [if_neg h3]
    by_cases h4 : c = 115 ∨ c = 114
    · rw [if_pos h4]
      rcases h4 with rfl | rfl
      · exact right_115 r hr w
      · exact right_114 r hr w
    rw [if_neg h4]
    exact right_no c r hr ⟨h1, h2, h3, h4⟩ w

end Go.Proofs.YtjnmpejcegmkhaaGreatDoor

namespace Go.Proofs.YtjnmpejcegmkhaaGreatDoor
open Go.RowKit

/-- Numbers that Go's int holds. -/
def I6 (x : Int) : Prop := -9223372036854775808 ≤ x ∧ x ≤ 9223372036854775807
theorem InB.i6 {x : Int} (h : InB x) : I6 x := by obtain ⟨a, b⟩ := h; exact ⟨by omega, by omega⟩
theorem I6.len {x : Int} (h : I6 x) : (Lib.itoa x).length ≤ 20 := itoa_len x h.1 h.2
theorem S_app (a b : List UInt8) : (⟨a.toArray⟩ : ByteArray) ++ ⟨b.toArray⟩ = ⟨(a ++ b).toArray⟩ := by
  apply ByteArray.ext
  simp

set_option maxHeartbeats 2000000 in
theorem errorText_c (e : Int) (he : I6 e) {w : World} (h : Tab w) : Calls Tryz.prog 43 #[I e] w fun x w' => x = .returned (S (33 :: Lib.itoa e)) ∧ Below w.heap.size w w' := by
  have h1 := itoa_c e he.1 he.2 h
  replace h1 : Hid _ := h1
  have hl := he.len
  have hSA := S_app
  generalize Lib.itoa e = l at *
  clear he
  go_enter Tryz.func43, Tryz.ntmps43
  go_wp2_with fail
  refine Calls.mono h1.out ?_
  rintro x w1 ⟨rfl, hb⟩
  go_wp2
  go_ret
  exact ⟨rfl, hb⟩

set_option maxHeartbeats 2000000 in
theorem numberText_c (n e : Int) (hn : I6 n) (he : I6 e) {w : World} (h : Tab w) : Calls Tryz.prog 23 #[I n, I e] w fun x w' => x = .returned (S (numT n e)) ∧ Below w.heap.size w w' := by
  unfold numT
  by_cases h0 : e = 0
  · rw [if_pos h0]
    subst h0
    have h1 := itoa_c n hn.1 hn.2 h
    replace h1 : Hid _ := h1
    generalize Lib.itoa n = l at *
    clear hn he
    go_enter Tryz.func23, Tryz.ntmps23
    go_wp2_with fail
    refine Calls.mono h1.out ?_
    rintro x w1 ⟨rfl, hb⟩
    go_wp2
    go_ret
    exact ⟨rfl, hb⟩
  · rw [if_neg h0]
    have h1 := errorText_c e he h
    replace h1 : Hid _ := h1
    have b0 : (e != 0) = true := by simpa using h0
    generalize (33 :: Lib.itoa e) = l at *
    clear hn he
    go_enter Tryz.func23, Tryz.ntmps23
    go_wp2_with fail
    refine Calls.mono h1.out ?_
    rintro x w1 ⟨rfl, hb⟩
    go_wp2
    go_ret
    exact ⟨rfl, hb⟩

/-- A box that a call made for an argument: it stands, and the table lies. -/
structure BoxAt (w : World) (arr : Array Value) (T : TypeId) (W : World) : Prop where
  blk : W.heap[w.heap.size]? = some (.cells arr T (0, 0))
  below : Below w.heap.size w W
  tab : Tab W
theorem BoxAt.go {w : World} {arr : Array Value} {T : TypeId} {W W' : World} (h : BoxAt w arr T W) (hb : Below W.heap.size W W') : BoxAt w arr T W' :=
  ⟨(hb.block _ (Array.getElem?_eq_some_iff.1 h.blk).1).trans h.blk, h.below.trans (hb.mono h.below.size), h.tab.below hb⟩
theorem BoxAt.drew {w : World} {arr : Array Value} {T : TypeId} {W : World} (h : BoxAt w arr T W) : BoxAt w arr T W.drew :=
  h.go (Below.drewN' (Below.refl _ _) 1)
theorem BoxAt.new {w : World} (h : Tab w) (arr : Array Value) (T : TypeId) : BoxAt w arr T (w.alloc (.cells arr T)) :=
  ⟨nb_alloc _ _ _, (Below.refl _ _).alloc (Nat.le_refl _) _, h.below ((Below.refl _ _).alloc (Nat.le_refl _) _)⟩
theorem BoxAt.itoa {w : World} {arr : Array Value} {T : TypeId} {W : World} (h : BoxAt w arr T W) (n : Int) (hn : I6 n) : Calls Tryz.prog 34 #[.int .i64 n] W fun e w' => e = .returned (S (Lib.itoa n)) ∧ BoxAt w arr T w' := by
  refine (itoa_c n hn.1 hn.2 h.tab).mono ?_
  rintro e w' ⟨rfl, hb⟩
  exact ⟨rfl, h.go hb⟩

end Go.Proofs.YtjnmpejcegmkhaaGreatDoor

namespace Go.Proofs.YtjnmpejcegmkhaaGreatDoor
open Go.RowKit

set_option maxHeartbeats 4000000 in
set_option maxRecDepth 100000 in
theorem procText_c (p : Int × Int × Int) (e : Int) (h1 : I6 p.1) (h2 : I6 p.2.1) (h3 : I6 p.2.2) (he : I6 e) {w : World} (h : Tab w) : Calls Tryz.prog 26 #[.agg #[I p.1, I p.2.1, I p.2.2], I e] w fun x w' => x = .returned (S (procT p e)) ∧ Below w.heap.size w w' := by
  obtain ⟨p1, p2, p3⟩ := p
  unfold procT
  simp only at h1 h2 h3 ⊢
  have H0 : Hid (BoxAt w #[I p1, I p2, I p3] 82 (w.alloc (.cells #[I p1, I p2, I p3] 82))) := BoxAt.new h _ _
  by_cases h0 : e = 0
  · rw [if_pos h0]
    subst h0
    have HS : Hid (∀ W, BoxAt w #[I p1, I p2, I p3] 82 W → (W.cell? ⟨w.heap.size, 0, none⟩ = some (I p1) ∧ W.cell? ⟨w.heap.size, 1, none⟩ = some (I p2) ∧ W.cell? ⟨w.heap.size, 2, none⟩ = some (I p3)) ∧ Hid (BoxAt w #[I p1, I p2, I p3] 82 W)) := by
      intro W hW
      have f1 := (nb_facts hW.blk).1
      exact ⟨⟨f1 0, f1 1, f1 2⟩, hW⟩
    have HA : Hid (∀ W, Hid (BoxAt w #[I p1, I p2, I p3] 82 W) → Calls Tryz.prog 34 #[.int .i64 p1] W fun e w' => e = .returned (S (Lib.itoa p1)) ∧ BoxAt w #[I p1, I p2, I p3] 82 w') := fun W hW => hW.out.itoa p1 h1
    have HB : Hid (∀ W, Hid (BoxAt w #[I p1, I p2, I p3] 82 W) → Calls Tryz.prog 34 #[.int .i64 p2] W fun e w' => e = .returned (S (Lib.itoa p2)) ∧ BoxAt w #[I p1, I p2, I p3] 82 w') := fun W hW => hW.out.itoa p2 h2
    have HC : Hid (∀ W, Hid (BoxAt w #[I p1, I p2, I p3] 82 W) → Calls Tryz.prog 34 #[.int .i64 p3] W fun e w' => e = .returned (S (Lib.itoa p3)) ∧ BoxAt w #[I p1, I p2, I p3] 82 w') := fun W hW => hW.out.itoa p3 h3
    have l1 := h1.len
    have l2 := h2.len
    have l3 := h3.len
    have hSA := S_app
    generalize Lib.itoa p1 = a1 at *
    generalize Lib.itoa p2 = a2 at *
    generalize Lib.itoa p3 = a3 at *
    have q1 : ¬ 9223372036854775807 < a1.length + 1 := by omega
    have q2 : ¬ 9223372036854775807 < a1.length + 1 + a2.length := by omega
    have q3 : ¬ 9223372036854775807 < a1.length + (a2.length + 1) + 1 := by omega
    have q4 : ¬ 9223372036854775807 < a1.length + (a2.length + 1 + 1) + a3.length := by omega
    clear h1 h2 h3 he h
    go_enter Tryz.func26, Tryz.ntmps26
    go_wp2_with fail
    go_region_held3 (fun W => (W.cell? ⟨w.heap.size, 0, none⟩ = some (I p1) ∧ W.cell? ⟨w.heap.size, 1, none⟩ = some (I p2) ∧ W.cell? ⟨w.heap.size, 2, none⟩ = some (I p3)) ∧ Hid (BoxAt w #[I p1, I p2, I p3] 82 W)) (first | exact HS.out _ H0.out.drew | exact HS.out _ (by assumption)) (first | (go_at_call_of 34 p1; refine (HA.out _ (And.right (by assumption))).mono ?_; rintro e w' ⟨rfl, hbx⟩) | (go_at_call_of 34 p2; refine (HB.out _ (And.right (by assumption))).mono ?_; rintro e w' ⟨rfl, hbx⟩) | (go_at_call_of 34 p3; refine (HC.out _ (And.right (by assumption))).mono ?_; rintro e w' ⟨rfl, hbx⟩))
    all_goals go_wp2
    all_goals go_ret
    all_goals exact ⟨by simp, hbx.below⟩
  · rw [if_neg h0]
    have hx := errorText_c e he H0.out.tab
    replace hx : Hid _ := hx
    have b0 : (e != 0) = true := by simpa using h0
    generalize (33 :: Lib.itoa e) = l at *
    clear he h1 h2 h3 h
    go_enter Tryz.func26, Tryz.ntmps26
    go_wp2_with fail
    refine Calls.mono hx.out ?_
    rintro x w1 ⟨rfl, hb⟩
    go_wp2
    go_ret
    exact ⟨rfl, H0.out.below.trans (hb.mono H0.out.below.size)⟩

end Go.Proofs.YtjnmpejcegmkhaaGreatDoor

namespace Go.Proofs.YtjnmpejcegmkhaaGreatDoor
open Go.RowKit

/-- A list of numbers in memory, as far as it is read. -/
structure IntsAt (w : World) (ao : Option Addr) (l : List Int) : Prop where
  at' : ∀ k, (hk : k < l.length) → ∃ g, ao = some ⟨g, 0, none⟩ ∧ w.cell? ⟨g, k, none⟩ = some (I l[k])
theorem IntsAt.below {w w' : World} {ao : Option Addr} {l : List Int} (h : IntsAt w ao l) (hb : Below w.heap.size w w') : IntsAt w' ao l :=
  ⟨fun k hk => by
    obtain ⟨g, e, hc⟩ := h.at' k hk
    exact ⟨g, e, (hb.cell (p := ⟨g, k, none⟩) (cell_lt hc)).trans hc⟩⟩
theorem ints_open {w : World} {b : Nat} {iv : Value} {l : List Int} (h : w.ownsRow b 3 1 iv l.length (l.map I)) : ∃ ao cap, iv = .slice ao l.length cap ∧ l.length ≤ cap ∧ l.length ≤ maxLen ∧ cap ≤ maxLen ∧ IntsAt w ao l := by
  obtain ⟨ao, cap, e1, c1, c2, c3, h2⟩ := ownsRow_cells h
  refine ⟨ao, cap, e1, c1, c2, c3, ⟨fun k hk => ?_⟩⟩
  obtain ⟨g, e, _, c⟩ := h2 k (I l[k]) (by simp [hk])
  exact ⟨g, e, c⟩
theorem itemsT_take (l : List Int) (k : Nat) (hk : k < l.length) : itemsT (l.take (k + 1)) = itemsT (l.take k) ++ 44 :: Lib.itoa l[k] := by
  rw [List.take_succ_eq_append_getElem hk, itemsT_app]
  simp [itemsT]

set_option maxHeartbeats 8000000 in
set_option maxRecDepth 100000 in
theorem leafText_c (d : ND) (wv iv : Value) (hd : NdB d) {b : Nat} {w : World} (h : Tab w) (ho : w.ownsRow b 3 1 iv d.items.length (d.items.map I)) : Calls Tryz.prog 48 #[.agg (ndCells d wv iv).toArray] w fun x w' => x = .returned (S (leafT d)) ∧ Below w.heap.size w w' := by
  obtain ⟨ao, cap, rfl, c1, c2, c3, hi0⟩ := ints_open ho
  unfold maxLen at c2 c3
  have HD : Hid (NdB d) := hd
  have HL : Hid (leafT d = headT d ++ itemsT d.items) := rfl
  have HH : Hid (headT d = Lib.itoa d.num ++ 58 :: (Lib.itoa d.puts ++ 44 :: Lib.itoa d.gets)) := rfl
  unfold ndCells
  have H0 : Hid (BoxAt w #[I d.num, I d.depth, I d.rank, .bool d.inner, .bool d.shut, I d.inside, I d.toggle, I d.width, wv, I d.puts, I d.gets, .slice ao d.items.length cap] 105 (w.alloc (.cells #[I d.num, I d.depth, I d.rank, .bool d.inner, .bool d.shut, I d.inside, I d.toggle, I d.width, wv, I d.puts, I d.gets, .slice ao d.items.length cap] 105))) := BoxAt.new h _ _
  have l1 := hd.num.len
  have l2 := hd.puts.len
  have l3 := hd.gets.len
  have i1 := hd.num.i6
  have i2 := hd.puts.i6
  have i3 := hd.gets.i6
  have hm := hd.many
  have HI : Hid (∀ x ∈ d.items, InB x) := hd.items
  generalize leafT d = lt at *
  generalize headT d = hd0 at *
  generalize d.num = p1 at *
  generalize d.puts = p2 at *
  generalize d.gets = p3 at *
  generalize d.items = its at *
  generalize d.depth = x1 at *
  generalize d.rank = x2 at *
  generalize d.inner = x3 at *
  generalize d.shut = x4 at *
  generalize d.inside = x5 at *
  generalize d.toggle = x6 at *
  generalize d.width = x7 at *
  have HS : Hid (∀ W, BoxAt w #[I p1, I x1, I x2, .bool x3, .bool x4, I x5, I x6, I x7, wv, I p2, I p3, .slice ao its.length cap] 105 W → (W.cell? ⟨w.heap.size, 0, none⟩ = some (I p1) ∧ W.cell? ⟨w.heap.size, 9, none⟩ = some (I p2) ∧ W.cell? ⟨w.heap.size, 10, none⟩ = some (I p3)) ∧ Hid (BoxAt w #[I p1, I x1, I x2, .bool x3, .bool x4, I x5, I x6, I x7, wv, I p2, I p3, .slice ao its.length cap] 105 W)) := by
    intro W hW
    have f1 := (nb_facts hW.blk).1
    exact ⟨⟨f1 0, f1 9, f1 10⟩, hW⟩
  have HA : Hid (∀ W, Hid (BoxAt w #[I p1, I x1, I x2, .bool x3, .bool x4, I x5, I x6, I x7, wv, I p2, I p3, .slice ao its.length cap] 105 W) → Calls Tryz.prog 34 #[.int .i64 p1] W fun e w' => e = .returned (S (Lib.itoa p1)) ∧ BoxAt w #[I p1, I x1, I x2, .bool x3, .bool x4, I x5, I x6, I x7, wv, I p2, I p3, .slice ao its.length cap] 105 w') := fun W hW => hW.out.itoa p1 i1
  have HB : Hid (∀ W, Hid (BoxAt w #[I p1, I x1, I x2, .bool x3, .bool x4, I x5, I x6, I x7, wv, I p2, I p3, .slice ao its.length cap] 105 W) → Calls Tryz.prog 34 #[.int .i64 p2] W fun e w' => e = .returned (S (Lib.itoa p2)) ∧ BoxAt w #[I p1, I x1, I x2, .bool x3, .bool x4, I x5, I x6, I x7, wv, I p2, I p3, .slice ao its.length cap] 105 w') := fun W hW => hW.out.itoa p2 i2
  have HC : Hid (∀ W, Hid (BoxAt w #[I p1, I x1, I x2, .bool x3, .bool x4, I x5, I x6, I x7, wv, I p2, I p3, .slice ao its.length cap] 105 W) → Calls Tryz.prog 34 #[.int .i64 p3] W fun e w' => e = .returned (S (Lib.itoa p3)) ∧ BoxAt w #[I p1, I x1, I x2, .bool x3, .bool x4, I x5, I x6, I x7, wv, I p2, I p3, .slice ao its.length cap] 105 w') := fun W hW => hW.out.itoa p3 i3
  have hSA := S_app
  generalize Lib.itoa p1 = a1 at *
  generalize Lib.itoa p2 = a2 at *
  generalize Lib.itoa p3 = a3 at *
  have q1 : ¬ 9223372036854775807 < a1.length + 1 := by omega
  have q2 : ¬ 9223372036854775807 < a1.length + 1 + a2.length := by omega
  have q3 : ¬ 9223372036854775807 < a1.length + (a2.length + 1) + 1 := by omega
  have q4 : ¬ 9223372036854775807 < a1.length + (a2.length + 1 + 1) + a3.length := by omega
  have HIA : Hid (IntsAt w ao its) := hi0
  clear i1 i2 i3 h hd ho hi0 HD
  go_enter Tryz.func48, Tryz.ntmps48
  go_wp2_with fail
  go_region_held3 (fun W => (W.cell? ⟨w.heap.size, 0, none⟩ = some (I p1) ∧ W.cell? ⟨w.heap.size, 9, none⟩ = some (I p2) ∧ W.cell? ⟨w.heap.size, 10, none⟩ = some (I p3)) ∧ Hid (BoxAt w #[I p1, I x1, I x2, .bool x3, .bool x4, I x5, I x6, I x7, wv, I p2, I p3, .slice ao its.length cap] 105 W)) (first | exact HS.out _ H0.out.drew | exact HS.out _ (by assumption)) (first | (go_at_call_of 34 p1; refine (HA.out _ (And.right (by assumption))).mono ?_; rintro e w' ⟨rfl, hbx⟩) | (go_at_call_of 34 p2; refine (HB.out _ (And.right (by assumption))).mono ?_; rintro e w' ⟨rfl, hbx⟩) | (go_at_call_of 34 p3; refine (HC.out _ (And.right (by assumption))).mono ?_; rintro e w' ⟨rfl, hbx⟩))
  go_wp2_with fail
  have HX : Hid (BoxAt w #[I p1, I x1, I x2, .bool x3, .bool x4, I x5, I x6, I x7, wv, I p2, I p3, .slice ao its.length cap] 105 w') := hbx
  have hh : hd0.length ≤ 62 := by rw [HH.out]; simp; omega
  clear HA HB HC HS H0 q1 q2 q3 q4
  go_loopw [3, 4] (fun tt ii wr => ∃ (k : Nat) (t : List UInt8), k ≤ its.length ∧ tt = S t ∧ ii = I k ∧ Hid (t = hd0 ++ itemsT (its.take k)) ∧ Hid (BoxAt w #[I p1, I x1, I x2, .bool x3, .bool x4, I x5, I x6, I x7, wv, I p2, I p3, .slice ao its.length cap] 105 wr)) (fun _ ii _ => its.length - (intOf ii).toNat)
  case atStart => exact ⟨0, _, Nat.zero_le _, rfl, rfl, by show _ = _; simp [itemsT, HH.out], HX⟩
  case round =>
    obtain ⟨k, t, hk, rfl, rfl, ht, hbr⟩ := hrel
    have f1 := (nb_facts hbr.out.blk).1
    have c11 := f1 11
    simp at c11
    have htl : t.length ≤ 62 + 21 * k := by
      have h3 := itemsT_len (l := its.take k) fun x hx => HI.out x (List.mem_of_mem_take hx)
      have h4 : (its.take k).length = k := by simp; omega
      rw [ht.out, List.length_append]
      omega
    by_cases hlt : k < its.length
    · have bl : decide ((k : Int) < (its.length : Int)) = true := by simp; omega
      obtain ⟨g, rfl, hc⟩ := (HIA.out.below hbr.out.below).at' k hlt
      have hin := HI.out its[k] (List.getElem_mem hlt)
      have li := hin.len
      have hcall := hbr.out.itoa its[k] hin.i6
      replace hcall : Hid _ := hcall
      have HT : Hid (itemsT (its.take (k + 1)) = itemsT (its.take k) ++ 44 :: Lib.itoa its[k]) := itemsT_take its k hlt
      generalize Lib.itoa its[k] = a at *
      generalize its[k] = x at *
      have q1 : ¬ 9223372036854775807 < 1 + a.length := by omega
      have q2 : ¬ 9223372036854775807 < t.length + (a.length + 1) := by omega
      clear hin f1 HIA HI
      go_wp2_with fail
      refine Calls.mono hcall.out ?_
      rintro e w5 ⟨rfl, hb5⟩
      replace hb5 : Hid _ := hb5
      clear hcall hbr hc c11
      go_wp2
      refine ⟨⟨k + 1, _, by omega, rfl, rfl, ?_, hb5⟩, ?_⟩
      · show _ = _
        rw [HT.out, ht.out]
        simp
      · show its.length - ((k : Int) + 1).toNat < its.length - (k : Int).toNat
        omega
    · have ek : k = its.length := by omega
      have bl : decide ((k : Int) < (its.length : Int)) = false := by simp; omega
      have HF : Hid (t = lt) := by
        show _ = _
        rw [ht.out, HL.out, ek, List.take_length]
      go_wp2
      go_ret
      rw [← HF.out]
      exact ⟨rfl, hbr.out.below⟩

end Go.Proofs.YtjnmpejcegmkhaaGreatDoor

namespace Go.Proofs.YtjnmpejcegmkhaaGreatDoor
open Go.RowKit

theorem lv_take (ls : List ND) (k : Nat) (hk : k < ls.length) : (ls.take (k + 1)).foldl lvS [] = lvS ((ls.take k).foldl lvS []) ls[k] := by
  rw [List.take_succ_eq_append_getElem hk, List.foldl_append]
  rfl

set_option maxHeartbeats 8000000 in
set_option maxRecDepth 100000 in
theorem leavesText_c (tp : Value) (ls : List ND) (hls : ∀ d ∈ ls, NdB d) (h32 : ls.length ≤ 32) {w : World} (h : Tab w)
    (hN : Calls Tryz.prog 47 #[tp] w fun e w' => ∃ x l, e = .returned x ∧ NodesRep w' w.heap.size x l ∧ l.map (fun y => y.1) = ls ∧ Below w.heap.size w w') :
    Calls Tryz.prog 27 #[tp] w fun e w' => e = .returned (S (leavesT ls)) ∧ Below w.heap.size w w' := by
  have HT : Hid (leavesT ls = (ls.take ls.length).foldl lvS []) := by show _ = _; rw [List.take_length]; rfl
  have HLS : Hid (∀ d ∈ ls, NdB d) := hls
  have HTab : Hid (Tab w) := h
  generalize leavesT ls = R at *
  replace hN : Hid _ := hN
  have hSA := S_app
  clear hls h
  go_enter Tryz.func27, Tryz.ntmps27
  go_wp2_with fail
  refine Calls.mono hN.out ?_
  rintro e w1 ⟨x, l, rfl, hr, hl, hb1⟩
  obtain ⟨ao, cap, e1, n1, n2, n3, _⟩ := ownsRow_cells hr.row
  have hlen : l.length = ls.length := by rw [← hl]; simp
  have HA : Hid (∀ k, (hk : k < l.length) → ∃ g, (∀ a n c, x = .slice a n c → a = some ⟨g, 0, none⟩) ∧ g < w1.heap.size ∧ ∀ j, j < 12 → w1.cell? ⟨g, k * 12 + j, none⟩ = (ndCells (l[k]).1 (l[k]).2.1 (l[k]).2.2)[j]?) := fun k hk => nodes_at hr k hk
  have HI : Hid (∀ k, (hk : k < l.length) → ∃ hk' : k < ls.length, (l[k]).1 = ls[k]) := by
    intro k hk
    subst hl
    exact ⟨by simpa using hk, by simp⟩
  have HIt : Hid (∀ k, (hk : k < l.length) → w1.ownsRow w.heap.size 3 1 (l[k]).2.2 (l[k]).1.items.length ((l[k]).1.items.map I)) := fun k hk => hr.items _ (List.getElem_mem hk)
  subst e1
  unfold maxLen at n2 n3
  rw [hlen] at n1 n2 ⊢
  have HTab1 : Hid (Tab w1) := HTab.out.below hb1
  replace hb1 : Hid _ := hb1
  clear hr hN hl HTab
  go_wp2_with fail
  go_loopw [4, 5] (fun tt ii wr => ∃ (k : Nat) (t : List UInt8), k ≤ ls.length ∧ tt = S t ∧ ii = I k ∧ Hid (t = (ls.take k).foldl lvS []) ∧ t.length ≤ 300001 * k ∧ Hid (Below w1.heap.size w1 wr)) (fun _ ii _ => ls.length - (intOf ii).toNat)
  case atStart => exact ⟨0, [], Nat.zero_le _, rfl, rfl, rfl, by simp, Below.refl _ _⟩
  case round =>
    obtain ⟨k, t, hk, rfl, rfl, ht, htl, hbr⟩ := hrel
    by_cases hlt : k < ls.length
    · have bl : decide ((k : Int) < (ls.length : Int)) = true := by simp; omega
      obtain ⟨g, hg, lg, f⟩ := HA.out k (by omega)
      obtain ⟨_, hke⟩ := HI.out k (by omega)
      have hit := HIt.out k (by omega)
      have hnb := HLS.out ls[k] (List.getElem_mem hlt)
      have HTK : Hid ((ls.take (k + 1)).foldl lvS [] = lvS ((ls.take k).foldl lvS []) ls[k]) := lv_take ls k hlt
      rw [← ht.out] at HTK
      have hlv := lvS_len hnb t
      obtain rfl := hg _ _ _ rfl
      generalize l[k] = y at *
      obtain ⟨d, wv, iv⟩ := y
      simp only at hke f hit
      generalize ls[k] = d' at *
      subst hke
      have F := fun j hj => (hbr.out.cell (p := ⟨g, k * 12 + j, none⟩) lg).trans (f j hj)
      have p0 : wr.cell? ⟨g, k * 12, none⟩ = some (I d.num) := F 0 (by omega)
      have p1 : wr.cell? ⟨g, k * 12 + 1, none⟩ = some (I d.depth) := F 1 (by omega)
      have p2 : wr.cell? ⟨g, k * 12 + 2, none⟩ = some (I d.rank) := F 2 (by omega)
      have p3 : wr.cell? ⟨g, k * 12 + 3, none⟩ = some (.bool d.inner) := F 3 (by omega)
      have p4 : wr.cell? ⟨g, k * 12 + 4, none⟩ = some (.bool d.shut) := F 4 (by omega)
      have p5 : wr.cell? ⟨g, k * 12 + 5, none⟩ = some (I d.inside) := F 5 (by omega)
      have p6 : wr.cell? ⟨g, k * 12 + 6, none⟩ = some (I d.toggle) := F 6 (by omega)
      have p7 : wr.cell? ⟨g, k * 12 + 7, none⟩ = some (I d.width) := F 7 (by omega)
      have p8 : wr.cell? ⟨g, k * 12 + 8, none⟩ = some (wv) := F 8 (by omega)
      have p9 : wr.cell? ⟨g, k * 12 + 9, none⟩ = some (I d.puts) := F 9 (by omega)
      have p10 : wr.cell? ⟨g, k * 12 + 10, none⟩ = some (I d.gets) := F 10 (by omega)
      have p11 : wr.cell? ⟨g, k * 12 + 11, none⟩ = some (iv) := F 11 (by omega)
      clear F f
      have hlf := leafText_c d wv iv hnb (HTab1.out.below hbr.out) (ownsRow_below hit hbr.out (Nat.le_refl _))
      have hll := hnb.leaf
      unfold ndCells at hlf
      unfold lvS at HTK hlv
      cases hin : d.inner with
      | true =>
        rw [hin, if_pos rfl] at HTK
        rw [hin] at p3
        clear hlf p0 p1 p2 p4 p5 p6 p7 p8 p9 p10 p11 hlv
        go_wp2
        refine ⟨⟨k + 1, t, by omega, rfl, rfl, HTK.out.symm, by omega, hbr⟩, ?_⟩
        show ls.length - ((k : Int) + 1).toNat < ls.length - (k : Int).toNat
        omega
      | false =>
        rw [hin, if_neg (by simp)] at HTK hlv
        rw [hin] at p3 hlf
        replace hlf : Hid _ := hlf
        generalize leafT d = a at *
        by_cases hte : t = []
        · subst hte
          rw [if_pos rfl] at HTK hlv
          have q1 : ¬ 9223372036854775807 < a.length := by omega
          clear hnb hit hin
          go_wp2_with fail
          refine Calls.mono hlf.out ?_
          rintro e w5 ⟨rfl, hb5⟩
          replace hb5 : Hid _ := hb5
          clear hlf p0 p1 p2 p3 p4 p5 p6 p7 p8 p9 p10 p11
          go_wp2
          refine ⟨⟨k + 1, a, by omega, rfl, rfl, HTK.out.symm, by simp at hlv; omega, hbr.out.trans (hb5.out.mono hbr.out.size)⟩, ?_⟩
          show ls.length - ((k : Int) + 1).toNat < ls.length - (k : Int).toNat
          omega
        · have bt : t.isEmpty = false := by simp [hte]
          rw [if_neg hte] at HTK hlv
          have q1 : ¬ 9223372036854775807 < t.length + 1 := by omega
          have q2 : ¬ 9223372036854775807 < t.length + 1 + a.length := by omega
          clear hnb hit hin hte
          go_wp2_with fail
          refine Calls.mono hlf.out ?_
          rintro e w5 ⟨rfl, hb5⟩
          replace hb5 : Hid _ := hb5
          clear hlf p0 p1 p2 p3 p4 p5 p6 p7 p8 p9 p10 p11
          go_wp2
          refine ⟨⟨k + 1, t ++ 124 :: a, by omega, rfl, rfl, ?_, by simp at hlv ⊢; omega, hbr.out.trans (hb5.out.mono hbr.out.size)⟩, ?_⟩
          · show _ = _
            refine Eq.trans ?_ HTK.out.symm
            simp
          · show ls.length - ((k : Int) + 1).toNat < ls.length - (k : Int).toNat
            omega
    · have ek : k = ls.length := by omega
      have bl : decide ((k : Int) < (ls.length : Int)) = false := by simp; omega
      have HF : Hid (t = R) := by
        show _ = _
        rw [ht.out, HT.out, ek]
      go_wp2
      go_ret
      rw [← HF.out]
      exact ⟨rfl, hb1.out.trans (hbr.out.mono hb1.out.size)⟩

end Go.Proofs.YtjnmpejcegmkhaaGreatDoor
