/- The program's reader of texts: contract of readCommand. No statement of the seat is proved here. The program's reader of texts: contract of readScript. No statement of the seat is proved here. The program's Play: its contract. No statement of the seat is proved here. What a hand of package prismkeep is in memory; contracts of at and live. No statement of the seat is proved here. Contracts of package prismkeep's begin. No statement of the seat is proved here. Arguments of the statements of package prismkeep, opened. No statement of the seat is proved here. The walk of the statement Told: for every configuration and every script the call answers true, and what was there is as it was. No statement of the seat is proved here. The walk of the statement Told: for every configuration and every script the call answers true, and what was there is as it was. No statement of the seat is proved here. The statement Told: for every configuration (any eight numbers) and every script (any list of steps, raw) the call of prismkeep.Told returns true, and its arguments read as they did before; the card ties the library's tables to the program's text. No condition. -/
import Derived.Test.YtjnmpejcegmkhabDoorPl2
import Derived.Test.YtjnmpejcegmkhabDoorProgA
import Derived.Test.YtjnmpejcegmkhabDoorTx4
import Derived.Test.YtjnmpejcegmkhabDoorProgB
import Derived.Test.YtjnmpejcegmkhabDoorCInv
import Derived.Test.YtjnmpejcegmkhabDoorRows
import Derived.WalkKit
import Derived.ProofKit
import Derived.OpenShut
import Derived.Carry
import Derived.Lib.SmallJoins
import Derived.Deep.Slices
import Derived.Test.YtjnmpejcegmkhabDoorCards
import Derived.Test.YtjnmpejcegmkhabDoorTie
import Derived.Deep.DeepHandedRow
import Derived.Lib.LaidTab
import Derived.SizedLaws
import Derived.SevenTiedAt
namespace Go.Proofs.YtjnmpejcegmkhabDoor
open Go.RowKit

theorem rdCm_flat {c : UInt8} {r : List UInt8} (h : c = 105 ∨ c = 103 ∨ c = 108) : rdCm (c :: r) = some (⟨c, 0, 0⟩, r) := by simp only [rdCm]; rw [if_pos h]
theorem rdCm_put {r : List UInt8} : rdCm (112 :: r) = rdPut r := by simp only [rdCm]; rw [if_neg (by decide), if_pos trivial]
theorem rdCm_one {c : UInt8} {r : List UInt8} (h : c = 102 ∨ c = 117 ∨ c = 113) : rdCm (c :: r) = rdOne c r := by
  simp only [rdCm]
  rw [if_neg (by rcases h with rfl | rfl | rfl <;> decide), if_neg (by rcases h with rfl | rfl | rfl <;> decide), if_pos h]
theorem rdCm_two {c : UInt8} {r : List UInt8} (h : c = 115 ∨ c = 114) : rdCm (c :: r) = rdTwo c r := by
  simp only [rdCm]
  rw [if_neg (by rcases h with rfl | rfl <;> decide), if_neg (by rcases h with rfl | rfl <;> decide), if_neg (by rcases h with rfl | rfl <;> decide), if_pos h]
theorem rdCm_odd {c : UInt8} {r : List UInt8} (h : ¬ (c = 105 ∨ c = 103 ∨ c = 108)) (h1 : c ≠ 112) (h2 : ¬ (c = 102 ∨ c = 117 ∨ c = 113)) (h3 : ¬ (c = 115 ∨ c = 114)) : rdCm (c :: r) = none := by
  simp only [rdCm]
  rw [if_neg h, if_neg h1, if_neg h2, if_neg h3]
theorem u8_ne {c : UInt8} {k : UInt8} (h : c ≠ k) : ((c.toNat : Int) == (k.toNat : Int)) = false := by
  rw [beq_eq_false_iff_ne]
  intro e
  exact h (UInt8.toNat_inj.1 (by omega))

set_option maxHeartbeats 8000000 in
set_option maxRecDepth 100000 in
theorem readCommand_c {w : World} {rb r : Nat} {t : List UInt8} (h : RdAt w rb t r) : Calls Tryd.prog 33 #[.pointer (some ⟨rb, 0, none⟩)] w fun e w' => CmRet rb t (rdCm (t.drop r)) e w' ∧ ChgT rb [91] w w' := by
  have hle := h.le
  have hlen := h.len
  have hrl := (Array.getElem?_eq_some_iff.1 h.blk).1
  have hlt : w.heap.size ≠ rb := by omega
  have hba : ∀ o, Below w.heap.size w (w.alloc o) := fun o => (Below.refl _ _).alloc (Nat.le_refl _) o
  by_cases hr : r < t.length
  · have hd : t.drop r = t[r] :: t.drop (r + 1) := List.drop_eq_getElem_cons hr
    have hx : ((⟨t.toArray⟩ : ByteArray)[r]'hr).toNat = (t[r]).toNat := rfl
    have b1 : decide (t.length ≤ r) = false := by simp; omega
    rw [hd]
    generalize t[r] = ch at *
    -- the world in which the letter has been read
    have HP : Hid (∀ o n, RdAt (((w.alloc o).drewN n).setCell ⟨rb, 1, none⟩ (I ((r : Int) + 1))) rb t (r + 1) ∧ ChgT rb [91] w (((w.alloc o).drewN n).setCell ⟨rb, 1, none⟩ (I ((r : Int) + 1)))) := by
      intro o n
      have h1 := h.below ((hba o).trans ((Below.drewN' (Below.refl _ _) n).mono (hba o).size))
      have h2 := h1.put hr
      exact ⟨h2.1, (ChgT.of_below ((hba o).trans ((Below.drewN' (Below.refl _ _) n).mono (hba o).size))).trans h2.2⟩
    have HB : Hid (∀ arr T n, (((w.alloc (.cells arr T)).drewN n).setCell ⟨rb, 1, none⟩ (I ((r : Int) + 1))).heap[w.heap.size]? = some (.cells arr T (0, 0))) := by
      intro arr T n
      rw [Below.heap_setCell _ _ _ _ hlt]
      exact nb_alloc w arr T
    obtain ⟨f1, f2⟩ := nb_facts h.blk
    have c0 := f1 0
    have c1 := f1 1
    simp at c0 c1
    have z1 := f2 1
    clear hd h f1 f2
    by_cases h1 : ch = 105 ∨ ch = 103 ∨ ch = 108
    · rcases h1 with rfl | rfl | rfl
      · have hx' : ((⟨t.toArray⟩ : ByteArray)[r]'hr).toNat = 105 := hx
        have HN : Hid (rdCm (105 :: t.drop (r + 1)) = some (⟨105, 0, 0⟩, t.drop (r + 1))) := rdCm_flat (by decide)
        generalize rdCm (105 :: t.drop (r + 1)) = ro at *
        clear hx HB
        go_enter Tryd.func33, Tryd.ntmps33
        go_wp2_with fail
        go_quiet (fail)
        go_wp2_with fail
        go_quiet (fail)
        go_wp2
        refine bodyPost_ret (v := .tuple #[.agg #[.int .u8 105, I 0, I 0], .bool true]) (by simp [results, Tryd.results33, go_sem]) rfl ⟨?_, (((HP.out _ _).2.fresh (Nat.le_refl _) _ _).fresh (Nat.le_refl _) _ _).fresh (Nat.le_refl _) _ _⟩
        rw [HN.out]
        exact ⟨rfl, r + 1, (((HP.out _ _).1.other hlt _ _).other hlt _ _).other hlt _ _, rfl⟩
      · have hx' : ((⟨t.toArray⟩ : ByteArray)[r]'hr).toNat = 103 := hx
        have HN : Hid (rdCm (103 :: t.drop (r + 1)) = some (⟨103, 0, 0⟩, t.drop (r + 1))) := rdCm_flat (by decide)
        generalize rdCm (103 :: t.drop (r + 1)) = ro at *
        clear hx HB
        go_enter Tryd.func33, Tryd.ntmps33
        go_wp2_with fail
        go_quiet (fail)
        go_wp2_with fail
        go_quiet (fail)
        go_wp2
        refine bodyPost_ret (v := .tuple #[.agg #[.int .u8 103, I 0, I 0], .bool true]) (by simp [results, Tryd.results33, go_sem]) rfl ⟨?_, (((HP.out _ _).2.fresh (Nat.le_refl _) _ _).fresh (Nat.le_refl _) _ _).fresh (Nat.le_refl _) _ _⟩
        rw [HN.out]
        exact ⟨rfl, r + 1, (((HP.out _ _).1.other hlt _ _).other hlt _ _).other hlt _ _, rfl⟩
      · have hx' : ((⟨t.toArray⟩ : ByteArray)[r]'hr).toNat = 108 := hx
        have HN : Hid (rdCm (108 :: t.drop (r + 1)) = some (⟨108, 0, 0⟩, t.drop (r + 1))) := rdCm_flat (by decide)
        generalize rdCm (108 :: t.drop (r + 1)) = ro at *
        clear hx HB
        go_enter Tryd.func33, Tryd.ntmps33
        go_wp2_with fail
        go_quiet (fail)
        go_wp2_with fail
        go_quiet (fail)
        go_wp2
        refine bodyPost_ret (v := .tuple #[.agg #[.int .u8 108, I 0, I 0], .bool true]) (by simp [results, Tryd.results33, go_sem]) rfl ⟨?_, (((HP.out _ _).2.fresh (Nat.le_refl _) _ _).fresh (Nat.le_refl _) _ _).fresh (Nat.le_refl _) _ _⟩
        rw [HN.out]
        exact ⟨rfl, r + 1, (((HP.out _ _).1.other hlt _ _).other hlt _ _).other hlt _ _, rfl⟩
    by_cases h2 : ch = 112
    · subst h2
      have hx' : ((⟨t.toArray⟩ : ByteArray)[r]'hr).toNat = 112 := hx
      rw [rdCm_put]
      have HK := fun o n => readPut_c (HP.out o n).1
      replace HK : Hid _ := HK
      clear hx
      go_enter Tryd.func33, Tryd.ntmps33
      go_wp2_with fail
      go_quiet (fail)
      go_wp2_with fail
      go_quiet (fail)
      go_wp2_with fail
      refine Calls.mono (HK.out _ _) ?_
      rintro e w1 ⟨hcm, hch⟩
      obtain ⟨x, g, rfl, _⟩ := hcm.form
      have nb1 := hch.at (HB.out _ _ _) (by decide)
      obtain ⟨f1, f2⟩ := nb_facts nb1
      have HC : Hid _ := (HP.out _ _).2.trans hch
      replace hcm : Hid _ := hcm
      clear hch HK HP HB nb1
      go_wp2
      refine bodyPost_ret (v := .tuple #[.agg #[.int .u8 x.ch.toNat, I x.a, I x.b], .bool g]) (by simp [results, Tryd.results33, go_sem, f1]) rfl ⟨CmRet.other (CmRet.other (CmRet.other hcm.out hlt _ _) hlt _ _) hlt _ _, ((HC.out.fresh (Nat.le_refl _) _ _).fresh (Nat.le_refl _) _ _).fresh (Nat.le_refl _) _ _⟩
    by_cases h3 : ch = 102 ∨ ch = 117 ∨ ch = 113
    · rcases h3 with rfl | rfl | rfl
      · have hx' : ((⟨t.toArray⟩ : ByteArray)[r]'hr).toNat = 102 := hx
        rw [rdCm_one (by decide)]
        have HK := fun o n => readOne_c (HP.out o n).1 102 (by decide)
        replace HK : Hid _ := HK
        clear hx
        go_enter Tryd.func33, Tryd.ntmps33
        go_wp2_with fail
        go_quiet (fail)
        go_wp2_with fail
        go_quiet (fail)
        go_wp2_with fail
        refine Calls.mono (HK.out _ _) ?_
        rintro e w1 ⟨hcm, hch⟩
        obtain ⟨x, g, rfl, _⟩ := hcm.form
        have nb1 := hch.at (HB.out _ _ _) (by decide)
        obtain ⟨f1, f2⟩ := nb_facts nb1
        have HC : Hid _ := (HP.out _ _).2.trans hch
        replace hcm : Hid _ := hcm
        clear hch HK HP HB nb1
        go_wp2
        refine bodyPost_ret (v := .tuple #[.agg #[.int .u8 x.ch.toNat, I x.a, I x.b], .bool g]) (by simp [results, Tryd.results33, go_sem, f1]) rfl ⟨CmRet.other (CmRet.other (CmRet.other hcm.out hlt _ _) hlt _ _) hlt _ _, ((HC.out.fresh (Nat.le_refl _) _ _).fresh (Nat.le_refl _) _ _).fresh (Nat.le_refl _) _ _⟩
      · have hx' : ((⟨t.toArray⟩ : ByteArray)[r]'hr).toNat = 117 := hx
        rw [rdCm_one (by decide)]
        have HK := fun o n => readOne_c (HP.out o n).1 117 (by decide)
        replace HK : Hid _ := HK
        clear hx
        go_enter Tryd.func33, Tryd.ntmps33
        go_wp2_with fail
        go_quiet (fail)
        go_wp2_with fail
        go_quiet (fail)
        go_wp2_with fail
        refine Calls.mono (HK.out _ _) ?_
        rintro e w1 ⟨hcm, hch⟩
        obtain ⟨x, g, rfl, _⟩ := hcm.form
        have nb1 := hch.at (HB.out _ _ _) (by decide)
        obtain ⟨f1, f2⟩ := nb_facts nb1
        have HC : Hid _ := (HP.out _ _).2.trans hch
        replace hcm : Hid _ := hcm
        clear hch HK HP HB nb1
        go_wp2
        refine bodyPost_ret (v := .tuple #[.agg #[.int .u8 x.ch.toNat, I x.a, I x.b], .bool g]) (by simp [results, Tryd.results33, go_sem, f1]) rfl ⟨CmRet.other (CmRet.other (CmRet.other hcm.out hlt _ _) hlt _ _) hlt _ _, ((HC.out.fresh (Nat.le_refl _) _ _).fresh (Nat.le_refl _) _ _).fresh (Nat.le_refl _) _ _⟩
      · have hx' : ((⟨t.toArray⟩ : ByteArray)[r]'hr).toNat = 113 := hx
        rw [rdCm_one (by decide)]
        have HK := fun o n => readOne_c (HP.out o n).1 113 (by decide)
        replace HK : Hid _ := HK
        clear hx
        go_enter Tryd.func33, Tryd.ntmps33
        go_wp2_with fail
        go_quiet (fail)
        go_wp2_with fail
        go_quiet (fail)
        go_wp2_with fail
        refine Calls.mono (HK.out _ _) ?_
        rintro e w1 ⟨hcm, hch⟩
        obtain ⟨x, g, rfl, _⟩ := hcm.form
        have nb1 := hch.at (HB.out _ _ _) (by decide)
        obtain ⟨f1, f2⟩ := nb_facts nb1
        have HC : Hid _ := (HP.out _ _).2.trans hch
        replace hcm : Hid _ := hcm
        clear hch HK HP HB nb1
        go_wp2
        refine bodyPost_ret (v := .tuple #[.agg #[.int .u8 x.ch.toNat, I x.a, I x.b], .bool g]) (by simp [results, Tryd.results33, go_sem, f1]) rfl ⟨CmRet.other (CmRet.other (CmRet.other hcm.out hlt _ _) hlt _ _) hlt _ _, ((HC.out.fresh (Nat.le_refl _) _ _).fresh (Nat.le_refl _) _ _).fresh (Nat.le_refl _) _ _⟩
    by_cases h4 : ch = 115 ∨ ch = 114
    · rcases h4 with rfl | rfl
      · have hx' : ((⟨t.toArray⟩ : ByteArray)[r]'hr).toNat = 115 := hx
        rw [rdCm_two (by decide)]
        have HK := fun o n => readTwo_c (HP.out o n).1 115
        replace HK : Hid _ := HK
        clear hx
        go_enter Tryd.func33, Tryd.ntmps33
        go_wp2_with fail
        go_quiet (fail)
        go_wp2_with fail
        go_quiet (fail)
        go_wp2_with fail
        refine Calls.mono (HK.out _ _) ?_
        rintro e w1 ⟨hcm, hch⟩
        obtain ⟨x, g, rfl, _⟩ := hcm.form
        have nb1 := hch.at (HB.out _ _ _) (by decide)
        obtain ⟨f1, f2⟩ := nb_facts nb1
        have HC : Hid _ := (HP.out _ _).2.trans hch
        replace hcm : Hid _ := hcm
        clear hch HK HP HB nb1
        go_wp2
        refine bodyPost_ret (v := .tuple #[.agg #[.int .u8 x.ch.toNat, I x.a, I x.b], .bool g]) (by simp [results, Tryd.results33, go_sem, f1]) rfl ⟨CmRet.other (CmRet.other (CmRet.other hcm.out hlt _ _) hlt _ _) hlt _ _, ((HC.out.fresh (Nat.le_refl _) _ _).fresh (Nat.le_refl _) _ _).fresh (Nat.le_refl _) _ _⟩
      · have hx' : ((⟨t.toArray⟩ : ByteArray)[r]'hr).toNat = 114 := hx
        rw [rdCm_two (by decide)]
        have HK := fun o n => readTwo_c (HP.out o n).1 114
        replace HK : Hid _ := HK
        clear hx
        go_enter Tryd.func33, Tryd.ntmps33
        go_wp2_with fail
        go_quiet (fail)
        go_wp2_with fail
        go_quiet (fail)
        go_wp2_with fail
        refine Calls.mono (HK.out _ _) ?_
        rintro e w1 ⟨hcm, hch⟩
        obtain ⟨x, g, rfl, _⟩ := hcm.form
        have nb1 := hch.at (HB.out _ _ _) (by decide)
        obtain ⟨f1, f2⟩ := nb_facts nb1
        have HC : Hid _ := (HP.out _ _).2.trans hch
        replace hcm : Hid _ := hcm
        clear hch HK HP HB nb1
        go_wp2
        refine bodyPost_ret (v := .tuple #[.agg #[.int .u8 x.ch.toNat, I x.a, I x.b], .bool g]) (by simp [results, Tryd.results33, go_sem, f1]) rfl ⟨CmRet.other (CmRet.other (CmRet.other hcm.out hlt _ _) hlt _ _) hlt _ _, ((HC.out.fresh (Nat.le_refl _) _ _).fresh (Nat.le_refl _) _ _).fresh (Nat.le_refl _) _ _⟩
    have HN : Hid (rdCm (ch :: t.drop (r + 1)) = none) := rdCm_odd h1 h2 h3 h4
    generalize rdCm (ch :: t.drop (r + 1)) = ro at *
    simp only [not_or] at h1 h3 h4
    have q1 : ((ch.toNat : Int) == 105) = false := u8_ne h1.1
    have q2 : ((ch.toNat : Int) == 103) = false := u8_ne h1.2.1
    have q3 : ((ch.toNat : Int) == 108) = false := u8_ne h1.2.2
    have q4 : ((ch.toNat : Int) == 112) = false := u8_ne h2
    have q5 : ((ch.toNat : Int) == 102) = false := u8_ne h3.1
    have q6 : ((ch.toNat : Int) == 117) = false := u8_ne h3.2.1
    have q7 : ((ch.toNat : Int) == 113) = false := u8_ne h3.2.2
    have q8 : ((ch.toNat : Int) == 115) = false := u8_ne h4.1
    have q9 : ((ch.toNat : Int) == 114) = false := u8_ne h4.2
    generalize ch.toNat = n at *
    clear h1 h2 h3 h4 HB
    go_enter Tryd.func33, Tryd.ntmps33
    go_wp2_with fail
    go_quiet (fail)
    go_wp2_with fail
    go_quiet (fail)
    go_wp2
    refine bodyPost_ret (v := .tuple #[cm0, .bool false]) (by simp [results, Tryd.results33, go_sem]) rfl ⟨?_, (((HP.out _ _).2.fresh (Nat.le_refl _) _ _).fresh (Nat.le_refl _) _ _).fresh (Nat.le_refl _) _ _⟩
    rw [HN.out]
    rfl
  · have hd : t.drop r = [] := List.drop_eq_nil_of_le (by omega)
    have b1 : decide (t.length ≤ r) = true := by simp; omega
    have HN : Hid (rdCm (t.drop r) = none) := by show _ = _; rw [hd]; rfl
    obtain ⟨f1, f2⟩ := nb_facts h.blk
    have c0 := f1 0
    have c1 := f1 1
    simp at c0 c1
    generalize rdCm (t.drop r) = ro at *
    clear hd h f1 f2
    go_enter Tryd.func33, Tryd.ntmps33
    go_wp2_with fail
    go_quiet (fail)
    go_wp2
    have HC : ∀ n, Hid (ChgT rb [91] w ((w.alloc (.cells #[.int .u8 0, .int .i64 0, .int .i64 0] 67)).drewN n)) := fun n => ChgT.of_below (Below.drewN' (hba _) n)
    refine bodyPost_ret (v := .tuple #[cm0, .bool false]) (by simp [results, Tryd.results33, go_sem]) rfl ⟨?_, (((HC _).out.fresh (Nat.le_refl _) _ _).fresh (Nat.le_refl _) _ _).fresh (Nat.le_refl _) _ _⟩
    rw [HN.out]
    rfl

end Go.Proofs.YtjnmpejcegmkhabDoor

namespace Go.Proofs.YtjnmpejcegmkhabDoor
open Go.RowKit

def lenOf : Value → Nat
  | .slice _ n _ => n
  | _ => 0
/-- Commands in memory, one behind the other. -/
def cmCs : List Cm → List Value
  | [] => []
  | c :: r => .int .u8 c.ch.toNat :: I c.a :: I c.b :: cmCs r
theorem cmCs_app (a : List Cm) (c : Cm) : cmCs (a ++ [c]) = cmCs a ++ [.int .u8 c.ch.toNat, I c.a, I c.b] := by
  induction a with
  | nil => rfl
  | cons x a ih => simp [cmCs, ih]
theorem cmCs_at : ∀ (l : List Cm) (i : Nat) (hi : i < l.length), (cmCs l)[3 * i]? = some (.int .u8 (l[i]).ch.toNat) ∧ (cmCs l)[3 * i + 1]? = some (I (l[i]).a) ∧ (cmCs l)[3 * i + 2]? = some (I (l[i]).b)
  | c :: r, 0, _ => ⟨rfl, rfl, rfl⟩
  | c :: r, i + 1, hi => by
    have := cmCs_at r i (by simp at hi; omega)
    simpa [cmCs, Nat.mul_add, Nat.add_right_comm] using this

theorem rdNum_len {l : List UInt8} {x : Int × List UInt8} (h : rdNum l = some x) : x.2.length ≤ l.length := by
  unfold rdNum at h
  split at h
  · simp at h
  · simp at h
    rw [← h]
    simp
theorem rdCm_len {l : List UInt8} {x : Cm × List UInt8} (h : rdCm l = some x) : x.2.length < l.length := by
  cases l with
  | nil => simp [rdCm] at h
  | cons c r =>
    have key : ∀ y : Cm × List UInt8, rdOne c r = some y → y.2.length < (c :: r).length := by
      intro y hy
      unfold rdOne at hy
      cases hn : rdNum r with
      | none => rw [hn] at hy; simp at hy
      | some z =>
        rw [hn] at hy
        have := rdNum_len hn
        simp at hy
        rw [← hy]
        simp
        omega
    simp only [rdCm] at h
    split at h
    · simp at h; rw [← h]; simp
    split at h
    · rename_i h2
      unfold rdPut at h
      split at h
      · cases hn : rdNum r.tail with
        | none => rw [hn] at h; simp at h
        | some z =>
          rw [hn] at h
          have := rdNum_len hn
          simp at h this
          rw [← h]
          simp
          omega
      · rw [← h2] at h
        exact key x h
    split at h
    · exact key x h
    split at h
    · unfold rdTwo at h
      cases hn : rdNum r with
      | none => rw [hn] at h; simp at h
      | some z =>
        rw [hn] at h
        have h1 := rdNum_len hn
        simp only [Option.bind_some] at h
        split at h
        · cases hm : rdNum z.2.tail with
          | none => rw [hm] at h; simp at h
          | some y =>
            rw [hm] at h
            have := rdNum_len hm
            simp at h this
            rw [← h]
            simp
            omega
        · simp at h
    · simp at h

theorem Tryd.info67 : (Tryd.prog.info? 67).map (fun i => (i.zero, i.size, i.bytes)) = some (some (.agg #[.int .u8 0, .int .i64 0, .int .i64 0]), 3, 24) := by kernel_rfl

/-- What readScript hands back. -/
def RsRet (b : Nat) (o : Option (List Cm)) (e : Ending) (w' : World) : Prop :=
  match o with
  | some cs => ∃ x, e = .returned (.tuple #[x, .bool true]) ∧ w'.ownsRow b 67 3 x cs.length (cmCs cs) ∧ cs.length ≤ 600
  | none => e = .returned (.tuple #[.slice none 0 0, .bool false])

set_option maxHeartbeats 8000000 in
set_option maxRecDepth 100000 in
theorem readScript_c (t : List UInt8) (w : World) (ht : t.length < 2 ^ 63) : Calls Tryd.prog 21 #[S t] w fun e w' => RsRet w.heap.size (rdText t) e w' ∧ Below w.heap.size w w' := by
  by_cases h6 : 600 < t.length
  · have HN : rdText t = none := by unfold rdText; rw [if_pos h6]
    rw [HN]
    have b1 : decide ((t.length : Int) > 600) = true := by simp; omega
    clear HN
    go_enter Tryd.func21, Tryd.ntmps21
    go_wp2
    go_ret2
    exact ⟨rfl, Below.refl _ _⟩
  have b1 : decide ((t.length : Int) > 600) = false := by simp; omega
  have HR : Hid (rdText t = if t = [] then some [] else rdAll t.length t) := by show _ = _; unfold rdText; rw [if_neg h6]
  have b2 : decide ((t.length : Int) > 0) = decide (t ≠ []) := decide_eq_decide.2 (by rw [← List.length_pos_iff]; omega)
  generalize hmo : decide (t ≠ []) = mo at *
  replace hmo : Hid _ := hmo
  generalize rdText t = ro at *
  obtain ⟨i0, hi, hz0, hz1, hz2⟩ := info_parts Tryd.info67
  go_enter Tryd.func21, Tryd.ntmps21
  go_wp2_with fail
  generalize hw0 : w.alloc (.cells #[S t, I 0] 91) = w0
  go_loopw [4, 6] (fun xx mm wr => ∃ (cs : List Cm) (r : Nat) (b : Bool), mm = .bool b ∧ Hid (RdAt wr w.heap.size t r) ∧ wr.ownsRow (w.heap.size + 1) 67 3 xx cs.length (cmCs cs) ∧ Hid (Below w.heap.size w wr) ∧ cs.length ≤ r ∧ Hid (if b = true then ∃ f, t.length - r ≤ f ∧ ro = (rdAll f (t.drop r)).map fun l => cs ++ l else ro = some cs)) (fun xx _ _ => 601 - lenOf xx)
  case atStart =>
    subst hw0
    refine ⟨[], 0, mo, ?_, ⟨nb_alloc _ _ _, Nat.zero_le _, by omega⟩, World.ownsRow_nil _ _ _ _, (Below.refl _ _).alloc (Nat.le_refl _) _, Nat.zero_le _, ?_⟩
    · rw [← b2]; first | rfl | simp
    · have h1 := HR.out
      have h2 := hmo.out
      cases mo with
      | true =>
        have : t ≠ [] := by simpa using h2
        rw [if_neg this] at h1
        exact ⟨t.length, Nat.sub_le _ _, by rw [h1, List.drop_zero]; simp⟩
      | false =>
        have : t = [] := by simpa using h2
        rw [if_pos this] at h1
        exact h1
  case round =>
    obtain ⟨cs, r, b, rfl, hr, hown, hbr, hcr, hf⟩ := hrel
    obtain ⟨ao, cp, rfl, d4, d5, d6, _⟩ := ownsRow_cells hown
    cases b with
    | false =>
      have hfo : Hid (ro = some cs) := hf.out
      have h6r := hr.out.le
      have HO : Hid _ := hown
      clear hown
      go_wp2
      go_ret2
      rw [hfo.out]
      exact ⟨⟨_, rfl, ownsRow_mono HO.out (by omega), by omega⟩, hbr.out⟩
    | true =>
      obtain ⟨f, hf1, hf2⟩ : ∃ f, t.length - r ≤ f ∧ ro = (rdAll f (t.drop r)).map fun l => cs ++ l := hf.out
      have hrc := readCommand_c hr.out
      replace hrc : Hid _ := hrc
      have h6r := hr.out.le
      have hlr := (Array.getElem?_eq_some_iff.1 hr.out.blk).1
      replace hf2 : Hid _ := hf2
      clear hf
      unfold maxLen at d5 d6
      go_wp2_with fail
      refine Calls.mono hrc.out ?_
      rintro e w1 ⟨hcm, hch⟩
      have hb1 : Hid (Below w.heap.size w w1) := hbr.out.trans (hch.below (Nat.le_of_lt hlr))
      have hown1 := hch.row hown (by decide)
      have hsz1 : wr.heap.size ≤ w1.heap.size := hch.size
      cases hro : rdCm (t.drop r) with
      | none =>
        rw [hro] at hcm
        have he : e = .returned (.tuple #[cm0, .bool false]) := hcm
        subst he
        have hnone : Hid (ro = none) := by
          show _ = _
          rw [hf2.out]
          cases f with
          | zero => rfl
          | succ f => simp [rdAll, hro]
        clear hcm hro hch hown hrc hown1 hf2
        go_wp2
        go_ret2
        rw [hnone.out]
        exact ⟨rfl, hb1.out.alloc hb1.out.size _⟩
      | some x =>
        rw [hro] at hcm
        obtain ⟨rfl, r', hr', hd'⟩ := hcm
        have hlen := rdCm_len hro
        rw [← hd'] at hlen
        simp only [List.length_drop] at hlen
        have hr'le := hr'.le
        obtain ⟨f, rfl⟩ : ∃ g, f = g + 1 := ⟨f - 1, by omega⟩
        have HF : Hid (ro = (if x.2 = [] then some [x.1] else if x.2.head? = some 59 then (rdAll f x.2.tail).map fun r => x.1 :: r else none).map fun l => cs ++ l) := by
          show _ = _
          rw [hf2.out]
          simp [rdAll, hro]
        rw [← hd'] at HF
        obtain ⟨⟨ch, a, bb⟩, rest⟩ := x
        replace hr' : Hid _ := hr'
        unfold cmV
        dsimp only at HF hd' ⊢
        clear hro hch hown hrc hf2 hd'
        go_wp2_with (at_builtin; go_must (refine wpList_append_own _ rfl _ _ 62 rfl (w.heap.size + 1) 67 i0 _ 3 24 Tryd.underlying62 hi hz0 hz1 hz2 rfl (by decide) _ _ _ rfl ((hown1.alloc _).alloc _) ⟨w1.heap.size + 1, 0, none⟩ 1 1 [.int .u8 ch.toNat, I a, I bb] rfl rfl ?c1 ?c2 ?c3 ?c4 ?c5 ?_))
        case c1 => exact cells_new_at (w1.alloc (.cells #[.int .u8 ch.toNat, I a, I bb] 67)) [.int .u8 ch.toNat, I a, I bb] 67 (w1.heap.size + 1) (by simp)
        case c2 =>
          intro u hu
          simp only [List.mem_cons, List.not_mem_nil, or_false] at hu
          rcases hu with h | h | h <;> subst h <;> rfl
        case c3 => unfold maxLen; omega
        case c4 => omega
        case c5 => simp; omega
        · intro x' w3 hown' hgrow _
          have hbg : Below (w.heap.size + 1) w1 w3 := (((Below.refl _ _).alloc (by omega) _).alloc (by simp; omega) _).grown hgrow (by simp; omega) (by
            intro j hj
            exact (hown1.lt j hj).1)
          have hr3 : RdAt w3 w.heap.size t r' := ⟨(hbg.block _ (by omega)).trans hr'.out.blk, hr'.out.le, hr'.out.len⟩
          have hb3 : Hid (Below w.heap.size w w3) := hb1.out.trans (hbg.mono (by omega))
          obtain ⟨f1, f2⟩ := nb_facts hr3.blk
          have c1 := f1 1
          simp at c1
          obtain ⟨ao3, cp3, rfl, _, _, _, _⟩ := ownsRow_cells hown'
          replace hown' : Hid _ := hown'
          have HR3 : Hid _ := hr3
          clear hgrow hown1 hbg hr' hr3 f1 f2
          by_cases hm : r' < t.length
          · have bm : decide ((r' : Int) < (t.length : Int)) = true := by simp; omega
            have hsk := skip_c HR3.out 59
            replace hsk : Hid _ := hsk
            go_wp2_with fail
            refine Calls.mono hsk.out ?_
            rintro e w4 ⟨rfl, hr4, hch4⟩
            have hb4 : Hid (Below w.heap.size w w4) := hb3.out.trans (hch4.below hb3.out.size)
            have hown4 : Hid _ := hch4.row hown'.out (by decide)
            have hne : t.drop r' ≠ [] := by
              intro e
              have := congrArg List.length e
              simp at this
              omega
            rw [if_neg hne] at HF
            by_cases h9 : (t.drop r').head? = some 59
            · rw [if_pos h9] at hr4 HF
              rw [decide_eq_true h9]
              replace hr4 : Hid _ := hr4
              clear hsk hch4 h9 hne HR3 hown' c1
              go_wp2
              refine ⟨⟨cs ++ [⟨ch, a, bb⟩], r' + 1, true, rfl, hr4.out, ?_, hb4.out, by simp; omega, ⟨f, by omega, ?_⟩⟩, ?_⟩
              · rw [List.length_append, cmCs_app]
                exact hown4.out
              · rw [HF.out, List.tail_drop, Option.map_map]
                congr 1
                funext l
                simp
              · show 601 - (cs.length + 1) < 601 - cs.length
                omega
            · rw [if_neg h9] at hr4 HF
              rw [decide_eq_false h9]
              clear hsk hch4 h9 hne HR3 hown' c1 hr4
              go_wp2
              go_ret2
              rw [HF.out]
              exact ⟨rfl, hb4.out⟩
          · have bm : decide ((r' : Int) < (t.length : Int)) = false := by simp; omega
            have he : t.drop r' = [] := List.drop_eq_nil_of_le (by omega)
            rw [if_pos he] at HF
            clear he
            go_wp2
            refine ⟨⟨cs ++ [⟨ch, a, bb⟩], r', false, rfl, HR3.out, ?_, hb3.out, by simp; omega, ?_⟩, ?_⟩
            · rw [List.length_append, cmCs_app]
              exact hown'.out
            · exact HF.out
            · show 601 - (cs.length + 1) < 601 - cs.length
              omega

end Go.Proofs.YtjnmpejcegmkhabDoor

namespace Go.Proofs.YtjnmpejcegmkhabDoor
open Go.RowKit

/-- A new tree of the document, in no memory. -/
def newL (c : Conf) : Lay := ⟨0, c, .slice none 0 0, [], .slice none 0 0, (List.range (2 ^ (c.depth.toNat + 1))).map fun u => (.slice none 0 0, if u = 0 then [] else newHist c.start u)⟩
theorem newL_new (c : Conf) : NewLay c (newL c) := by
  refine ⟨rfl, rfl, by simp [newL], fun u h1 h2 => ?_, ?_⟩
  · have h2' : u < 2 ^ (c.depth.toNat + 1) := by simpa [newL] using h2
    unfold Lay.hist newL
    simp [List.getD_eq_getElem?_getD, h2']
    omega
  · unfold Lay.hist newL
    have : 0 < 2 ^ (c.depth.toNat + 1) := Nat.two_pow_pos _
    simp [List.getD_eq_getElem?_getD, this]
theorem newL_vb (c : Conf) : VB (newL c) := by
  refine ⟨fun x hx => ?_, fun y hy => ?_⟩
  · simp [newL] at hx
  · obtain ⟨u, _, rfl⟩ := List.mem_map.1 hy
    intro e he
    have i0 : InB 0 := inbN (by omega) (by omega)
    dsimp only at he
    split at he
    · simp at he
    · unfold newHist at he
      split at he
      · simp at he; rw [he]; exact ⟨i0, by simp⟩
      · split at he
        · simp at he; rw [he]; exact ⟨i0, by simp⟩
        · simp at he
theorem TSt.new {w : World} {B : Nat} {c : Conf} {P : PLay} (hm : mayC c = true) (h : PRep w B P) (hp : PNew c P) (hB : B ≤ w.heap.size) (ht : TabB B w) : TSt w B c (newL c) P :=
  ⟨h, crel_new hm (newL_new c) hp h.len, newL_vb c, hB, ht⟩

/- The reader gives commands that there are. -/
theorem rdNum_val {l : List UInt8} {x : Int × List UInt8} (h : rdNum l = some x) : 0 ≤ x.1 ∧ x.1 < 1000000 := by
  unfold rdNum at h
  split at h
  · simp at h
  · simp only [Option.some.injEq] at h
    rw [← h]
    exact dgv_range l
theorem rdOne_ok {ch : UInt8} {l : List UInt8} {x : Cm × List UInt8} (h : rdOne ch l = some x) : x.1.ch = ch ∧ InB x.1.a := by
  unfold rdOne at h
  cases hn : rdNum l with
  | none => rw [hn] at h; simp at h
  | some z =>
    rw [hn] at h
    have := rdNum_val hn
    simp only [Option.map_some, Option.some.injEq] at h
    rw [← h]
    exact ⟨rfl, by dsimp only; omega, by dsimp only; omega⟩
theorem rdTwo_ok {ch : UInt8} {l : List UInt8} {x : Cm × List UInt8} (h : rdTwo ch l = some x) : x.1.ch = ch ∧ InB x.1.a := by
  unfold rdTwo at h
  cases hn : rdNum l with
  | none => rw [hn] at h; simp at h
  | some z =>
    rw [hn] at h
    have := rdNum_val hn
    simp only [Option.bind_some] at h
    split at h
    · cases hm : rdNum z.2.tail with
      | none => rw [hm] at h; simp at h
      | some y =>
        rw [hm] at h
        simp only [Option.map_some, Option.some.injEq] at h
        rw [← h]
        exact ⟨rfl, by dsimp only; omega, by dsimp only; omega⟩
    · simp at h
theorem rdPut_ok {l : List UInt8} {x : Cm × List UInt8} (h : rdPut l = some x) : x.1.ch = 112 ∧ InB x.1.a := by
  unfold rdPut at h
  split at h
  · cases hn : rdNum l.tail with
    | none => rw [hn] at h; simp at h
    | some z =>
      rw [hn] at h
      have := rdNum_val hn
      simp only [Option.map_some, Option.some.injEq] at h
      rw [← h]
      exact ⟨rfl, by dsimp only; omega, by dsimp only; omega⟩
  · exact rdOne_ok h
theorem rdCm_ok {l : List UInt8} {x : Cm × List UInt8} (h : rdCm l = some x) : ChOk x.1 := by
  cases l with
  | nil => simp [rdCm] at h
  | cons ch r =>
    simp only [rdCm] at h
    split at h
    · rename_i hc
      simp only [Option.some.injEq] at h
      rw [← h]
      refine ⟨?_, by dsimp only; exact inbN (by omega) (by omega)⟩
      dsimp only
      rcases hc with rfl | rfl | rfl <;> simp
    split at h
    · have := rdPut_ok h
      exact ⟨by rw [this.1]; simp, this.2⟩
    split at h
    · rename_i hc
      have := rdOne_ok h
      refine ⟨?_, this.2⟩
      rw [this.1]
      rcases hc with rfl | rfl | rfl <;> simp
    split at h
    · rename_i hc
      have := rdTwo_ok h
      refine ⟨?_, this.2⟩
      rw [this.1]
      rcases hc with rfl | rfl <;> simp
    · simp at h
theorem rdAll_ok : ∀ (f : Nat) {l : List UInt8} {cs : List Cm}, rdAll f l = some cs → ∀ cm ∈ cs, ChOk cm
  | 0, l, cs, h => by simp [rdAll] at h
  | f + 1, l, cs, h => by
    unfold rdAll at h
    cases hc : rdCm l with
    | none => rw [hc] at h; simp at h
    | some x =>
      rw [hc] at h
      have hx := rdCm_ok hc
      simp only [Option.bind_some] at h
      split at h
      · simp only [Option.some.injEq] at h
        rw [← h]
        intro cm hm
        simp at hm
        rw [hm]
        exact hx
      · split at h
        · cases hr : rdAll f x.2.tail with
          | none => rw [hr] at h; simp at h
          | some r =>
            rw [hr] at h
            simp only [Option.map_some, Option.some.injEq] at h
            rw [← h]
            intro cm hm
            rcases List.mem_cons.1 hm with rfl | hm
            · exact hx
            · exact rdAll_ok f hr cm hm
        · simp at h
theorem rdText_ok {t : List UInt8} {cs : List Cm} (h : rdText t = some cs) : ∀ cm ∈ cs, ChOk cm := by
  unfold rdText at h
  split at h
  · simp at h
  · split at h
    · simp at h
      rw [h]
      intro cm hm
      simp at hm
    · exact rdAll_ok _ h

/-- What Play answers. -/
def playT (c : Conf) (t : List UInt8) : List UInt8 × Int :=
  if mayC c = false then ([], 1) else match rdText t with
    | none => ([], 7)
    | some cs => ((plA c (newL c) cs).2.1, 0)

/-- In the midst of a Play: behind commands cs. -/
def PlAt (B : Nat) (c : Conf) (tb : Nat) (cs : List Cm) (w : World) : Prop := ∃ P, P.tb = tb ∧ TSt w B c (plA c (newL c) cs).2.2 P
theorem PlAt.play {B : Nat} {c : Conf} {tb : Nat} {cs : List Cm} {w : World} (h : PlAt B c tb cs w) (cm : Cm) (ho : ChOk cm) :
    Calls Tryd.prog 22 #[.pointer (some ⟨tb, 0, none⟩), cmV cm] w fun e w' => e = .returned (S (ansOf c (plA c (newL c) cs).2.2 cm).1) ∧ PlAt B c tb (cs ++ [cm]) w' ∧ ChgT B TT w w' := by
  obtain ⟨P, rfl, h⟩ := h
  refine (play_c h cm ho).mono ?_
  rintro e w' ⟨rfl, ⟨P', e, h'⟩, hc⟩
  refine ⟨rfl, ⟨P', e, ?_⟩, hc⟩
  rw [plA_snoc]
  exact h'
theorem PlAt.len {B : Nat} {c : Conf} {tb : Nat} {cs : List Cm} {w : World} (h : PlAt B c tb cs w) (cm : Cm) : (ansOf c (plA c (newL c) cs).2.2 cm).1.length ≤ 10000000 := by
  obtain ⟨P, _, h⟩ := h
  exact ans_len h.vb h.rel cm
theorem PlAt.below {B : Nat} {c : Conf} {tb : Nat} {cs : List Cm} {w w' : World} (h : PlAt B c tb cs w) (hb : Below w.heap.size w w') : PlAt B c tb cs w' := by
  obtain ⟨P, e, h⟩ := h
  exact ⟨P, e, h.below hb⟩
theorem PlAt.hB {B : Nat} {c : Conf} {tb : Nat} {cs : List Cm} {w : World} (h : PlAt B c tb cs w) : B ≤ w.heap.size := by
  obtain ⟨P, e, h⟩ := h
  exact h.hB

theorem cm_row {w : World} {b : Nat} {x : Value} {cs : List Cm} (h : w.ownsRow b 67 3 x cs.length (cmCs cs)) : ∃ ao cap, x = .slice ao cs.length cap ∧ cs.length ≤ cap ∧ cs.length ≤ maxLen ∧ cap ≤ maxLen ∧ ∀ k, (hk : k < cs.length) → ∃ g, ao = some ⟨g, 0, none⟩ ∧ w.cell? ⟨g, k * 3, none⟩ = some (.int .u8 (cs[k]).ch.toNat) ∧ w.cell? ⟨g, k * 3 + 1, none⟩ = some (I (cs[k]).a) ∧ w.cell? ⟨g, k * 3 + 2, none⟩ = some (I (cs[k]).b) := by
  obtain ⟨ao, cap, e1, c1, c2, c3, h2⟩ := ownsRow_cells h
  refine ⟨ao, cap, e1, c1, c2, c3, fun k hk => ?_⟩
  obtain ⟨a1, a2, a3⟩ := cmCs_at cs k hk
  rw [Nat.mul_comm] at a1 a2 a3
  obtain ⟨g, e, _, d1⟩ := h2 _ _ a1
  obtain ⟨g2, e2, _, d2⟩ := h2 _ _ a2
  obtain ⟨g3, e3, _, d3⟩ := h2 _ _ a3
  have g12 : g2 = g := by rw [e] at e2; simpa using e2.symm
  have g13 : g3 = g := by rw [e] at e3; simpa using e3.symm
  rw [g12] at d2
  rw [g13] at d3
  exact ⟨g, e, d1, d2, d3⟩

set_option maxHeartbeats 8000000 in
set_option maxRecDepth 100000 in
theorem Play_c (c : Conf) (t : List UInt8) (ht : t.length < 2 ^ 63) {w : World} (h : Tab w) :
    Calls Tryd.prog 7 #[confV c, S t] w fun e w' => e = .returned (.tuple #[S (playT c t).1, I (playT c t).2]) ∧ Below w.heap.size w w' := by
  have hba : Below w.heap.size w (w.alloc (.cells #[I c.kind, I c.depth, I c.start, I c.slots, I c.width, I c.spin, I c.drain, I c.procs] 23)) := (Below.refl _ _).alloc (Nat.le_refl _) _
  have hSA := S_app
  unfold playT
  cases hm : mayC c with
  | false =>
    rw [if_pos rfl]
    have h1 := fun W => pnew_no c W hm
    unfold confV at h1 ⊢
    dsimp only
    replace h1 : Hid _ := h1
    replace hba : Hid _ := hba
    clear hm h
    go_enter Tryd.func7, Tryd.ntmps7
    go_wp2_with fail
    refine Calls.mono (h1.out _) ?_
    rintro e w1 ⟨rfl, hb1⟩
    go_wp2
    go_ret2
    exact ⟨rfl, hba.out.trans (hb1.mono hba.out.size)⟩
  | true =>
    rw [if_neg (by simp)]
    have h1 : Hid (∀ W, Below w.heap.size w W → Calls Tryd.prog 8 #[.agg #[I c.kind, I c.depth, I c.start, I c.slots, I c.width, I c.spin, I c.drain, I c.procs]] W fun e w' => ∃ tb, e = .returned (.tuple #[.pointer (some ⟨tb, 0, none⟩), I 0]) ∧ PlAt W.heap.size c tb [] w' ∧ Below W.heap.size W w') := by
      intro W hW
      refine (pnew_yes c W hm).mono ?_
      rintro e w' ⟨P, rfl, hp, hn, hb⟩
      exact ⟨P.tb, rfl, ⟨P, rfl, TSt.new hm hp hn hb.size ⟨w, h, hW.size, hW.trans (hb.mono hW.size)⟩⟩, hb⟩
    have h2 : Hid (∀ W, Calls Tryd.prog 21 #[S t] W fun e w' => RsRet W.heap.size (rdText t) e w' ∧ Below W.heap.size W w') := fun W => readScript_c t W ht
    unfold confV
    cases hr : rdText t with
    | none =>
      rw [hr] at h2
      dsimp only
      replace hba : Hid _ := hba
      clear hr h ht hm
      go_enter Tryd.func7, Tryd.ntmps7
      go_wp2_with fail
      refine Calls.mono (h1.out _ hba.out) ?_
      rintro e w1 ⟨tb, rfl, hp, hb1⟩
      replace hp : Hid _ := hp
      clear h1
      go_wp2_with fail
      refine Calls.mono (h2.out _) ?_
      rintro e w2 ⟨hrs, hb2⟩
      have hrs' : e = .returned (.tuple #[.slice none 0 0, .bool false]) := hrs
      subst hrs'
      clear hrs
      go_wp2
      go_ret2
      have hb3 := hba.out.trans (hb1.mono hba.out.size)
      exact ⟨rfl, hb3.trans (hb2.mono hb3.size)⟩
    | some cs =>
      rw [hr] at h2
      have HOk : Hid (∀ cm ∈ cs, ChOk cm) := rdText_ok hr
      have HE : Hid ((plA c (newL c) cs).2.1 = (plA c (newL c) (cs.take cs.length)).2.1) := by show _ = _; rw [List.take_length]
      dsimp only
      generalize (plA c (newL c) cs).2.1 = R at *
      replace hba : Hid _ := hba
      clear hr h ht hm
      go_enter Tryd.func7, Tryd.ntmps7
      go_wp2_with fail
      refine Calls.mono (h1.out _ hba.out) ?_
      rintro e w1 ⟨tb, rfl, hp, hb1⟩
      have hb3 : Below w.heap.size w w1 := hba.out.trans (hb1.mono hba.out.size)
      have HBs : Hid (w.heap.size ≤ (w.alloc (.cells #[I c.kind, I c.depth, I c.start, I c.slots, I c.width, I c.spin, I c.drain, I c.procs] 23)).heap.size) := hba.out.size
      generalize (w.alloc (.cells #[I c.kind, I c.depth, I c.start, I c.slots, I c.width, I c.spin, I c.drain, I c.procs] 23)).heap.size = B at *
      replace hp : Hid _ := hp
      clear h1 hb1 hba
      go_wp2_with fail
      refine Calls.mono (h2.out _) ?_
      rintro e w2 ⟨hrs, hb2⟩
      obtain ⟨x, rfl, hrow, h600⟩ := hrs
      obtain ⟨ao, cap, rfl, n1, n2, n3, _⟩ := ownsRow_cells hrow
      unfold maxLen at n2 n3
      have hp2 : Hid (PlAt B c tb [] w2) := PlAt.below hp.out hb2
      have hb4 : Hid (Below w.heap.size w w2) := hb3.trans (hb2.mono hb3.size)
      have HRow : Hid (w2.ownsRow w1.heap.size 67 3 (.slice ao cs.length cap) cs.length (cmCs cs)) := hrow
      clear hrow hb2 hb3 h2 hp
      go_wp2_with fail
      go_loopw [10, 11, 12] (fun tt ii _ wr => ∃ (k : Nat) (u : List UInt8), k ≤ cs.length ∧ tt = S u ∧ ii = I k ∧ Hid (u = (plA c (newL c) (cs.take k)).2.1) ∧ u.length ≤ 10000001 * k ∧ Hid (PlAt B c tb (cs.take k) wr) ∧ Hid (wr.ownsRow w1.heap.size 67 3 (.slice ao cs.length cap) cs.length (cmCs cs)) ∧ Hid (Below w.heap.size w wr)) (fun _ ii _ _ => cs.length - (intOf ii).toNat)
      case atStart => exact ⟨0, [], Nat.zero_le _, rfl, rfl, rfl, by simp, hp2, HRow, hb4⟩
      case round =>
        obtain ⟨k, u, hk, rfl, rfl, hu, hul, hpl, hrw, hbr⟩ := hrel
        by_cases hlt : k < cs.length
        · have bl : decide ((k : Int) < (cs.length : Int)) = true := by simp; omega
          obtain ⟨ao', cap', ee, _, _, _, hcell⟩ := cm_row hrw.out
          obtain ⟨rfl, _, rfl⟩ : ao = ao' ∧ cs.length = cs.length ∧ cap = cap' := by simpa using ee
          obtain ⟨g, rfl, d0, d1, d2⟩ := hcell k hlt
          have hcall := PlAt.play hpl.out cs[k] (HOk.out _ (List.getElem_mem hlt))
          have hal := PlAt.len hpl.out cs[k]
          have HS : Hid (plA c (newL c) (cs.take (k + 1)) = plS c (plA c (newL c) (cs.take k)) cs[k]) := by
            show _ = _
            rw [List.take_succ_eq_append_getElem hlt, plA_snoc]
          have HT : Hid (cs.take (k + 1) = cs.take k ++ [cs[k]]) := List.take_succ_eq_append_getElem hlt
          have hB := PlAt.hB hpl.out
          have HK : Hid ((plA c (newL c) (cs.take k)).1 = k) := by
            show _ = _
            rw [plA_len]
            simp
            omega
          rw [← HT.out] at hcall
          have HU : Hid ((plA c (newL c) (cs.take (k + 1))).2.1 = (if k = 0 then u else u ++ [59]) ++ (ansOf c (plA c (newL c) (cs.take k)).2.2 cs[k]).1) := by
            show _ = _
            rw [HS.out, hu.out]
            unfold plS
            rw [HK.out]
          unfold cmV at hcall
          replace hcall : Hid _ := hcall
          generalize (ansOf c (plA c (newL c) (cs.take k)).2.2 cs[k]).1 = a at *
          generalize cs[k] = cm at *
          obtain ⟨ch, xa, xb⟩ := cm
          dsimp only at d0 d1 d2 hcall
          clear HS HK ee hcell HT
          by_cases hk0 : k = 0
          · subst hk0
            have b0 : u.length + a.length ≤ 30000000 := by omega
            have q1 : ¬ 9223372036854775807 < u.length + a.length := by omega
            rw [if_pos rfl] at HU
            go_wp2_with fail
            refine Calls.mono hcall.out ?_
            rintro e w5 ⟨rfl, hp5, hc5⟩
            have HB5 : Hid (Below w.heap.size w w5) := hbr.out.trans ((hc5.below hB).mono HBs.out)
            have HR5 : Hid (w5.ownsRow w1.heap.size 67 3 (.slice (some ⟨g, 0, none⟩) cs.length cap) cs.length (cmCs cs)) := hc5.row hrw.out (by decide)
            replace hp5 : Hid _ := hp5
            clear hcall hc5 hrw hbr hpl d0 d1 d2
            go_wp2
            refine ⟨⟨1, u ++ a, by omega, rfl, rfl, HU.out.symm, by simp; omega, hp5, HR5, HB5⟩, ?_⟩
            show cs.length - ((0 : Int) + 1).toNat < cs.length - (0 : Int).toNat
            omega
          · have b0 : decide ((k : Int) > 0) = true := by simp; omega
            have q1 : ¬ 9223372036854775807 < u.length + 1 := by omega
            have q2 : ¬ 9223372036854775807 < u.length + 1 + a.length := by omega
            rw [if_neg hk0] at HU
            go_wp2_with fail
            refine Calls.mono hcall.out ?_
            rintro e w5 ⟨rfl, hp5, hc5⟩
            have HB5 : Hid (Below w.heap.size w w5) := hbr.out.trans ((hc5.below hB).mono HBs.out)
            have HR5 : Hid (w5.ownsRow w1.heap.size 67 3 (.slice (some ⟨g, 0, none⟩) cs.length cap) cs.length (cmCs cs)) := hc5.row hrw.out (by decide)
            replace hp5 : Hid _ := hp5
            clear hcall hc5 hrw hbr hpl d0 d1 d2
            go_wp2
            refine ⟨⟨k + 1, u ++ 59 :: a, by omega, rfl, rfl, ?_, by simp; omega, hp5, HR5, HB5⟩, ?_⟩
            · show _ = _
              rw [HU.out]
              simp
            · show cs.length - ((k : Int) + 1).toNat < cs.length - (k : Int).toNat
              omega
        · have ek : k = cs.length := by omega
          have bl : decide ((k : Int) < (cs.length : Int)) = false := by simp; omega
          have HF : Hid (u = R) := by
            show _ = _
            rw [hu.out, HE.out, ek]
          go_wp2
          go_ret2
          rw [← HF.out]
          exact ⟨rfl, hbr.out⟩

end Go.Proofs.YtjnmpejcegmkhabDoor

namespace Go.Proofs.YtjnmpejcegmkhabDoor
open Go.RowKit

def opCells (o : Op3) : List Value := [I o.kind, I o.val, I o.node]
def handCells (P : PLay) (ov wv : Value) : List Value := [.pointer (some ⟨P.tb, 0, none⟩), I P.c.kind, I P.c.depth, I P.c.start, I P.c.slots, I P.c.width, I P.c.spin, I P.c.drain, I P.c.procs, ov, wv]

/-- A hand: its tree, what was begun, who has stepped. -/
structure KRep (w : World) (B hb : Nat) (P : PLay) (ops : List Op3) (went : List Bool) : Prop where
  blk : ∃ ov wv, w.heap[hb]? = some (.cells (handCells P ov wv).toArray 36 (0, 0)) ∧ w.ownsRow B 58 3 ov ops.length (ops.flatMap opCells) ∧ w.ownsRow B 4 1 wv went.length (went.map Value.bool)
  hB : B ≤ hb
  prog : PRep w B P
  len : ops.length = P.procs.length
  wlen : went.length = ops.length

end Go.Proofs.YtjnmpejcegmkhabDoor

namespace Go.Proofs.YtjnmpejcegmkhabDoor
open Go.RowKit

theorem PRep.base2 {w : World} {B B' : Nat} {L : PLay} (h : PRep w B L) (hb : B' ≤ B) : PRep w B' L :=
  ⟨h.tree, Nat.le_trans hb h.treeB, h.len, ownsRow_mono h.prow hb, fun v hv => ownsRow_mono (h.items v hv) hb, h.ind⟩

set_option maxHeartbeats 4000000 in
theorem kbegin_no (c : Conf) (w : World) (h : mayC c = false) : Calls Tryd.prog 4 #[confV c] w fun e w' => e = .returned (.tuple #[.pointer none, .bool true]) ∧ Below w.heap.size w w' := by
  have h1 := fun W => pnew_no c W h
  have h2 := fun W => good_c c W
  rw [h] at h2
  unfold confV at h1 h2 ⊢
  clear h
  replace h1 : Hid _ := h1
  replace h2 : Hid _ := h2
  go_enter Tryd.func4, Tryd.ntmps4
  go_wp2_with fail
  refine Calls.mono (h1.out _) ?_
  rintro e w1 ⟨rfl, hb1⟩
  have nb1 : w1.heap[w.heap.size]? = some (.cells #[I c.kind, I c.depth, I c.start, I c.slots, I c.width, I c.spin, I c.drain, I c.procs] 23 (0, 0)) := (hb1.block _ (by simp)).trans (nb_alloc _ _ _)
  have hb2 : Below w.heap.size w w1 := ((Below.refl _ _).alloc (Nat.le_refl _) _).trans (hb1.mono (by simp))
  obtain ⟨f1, _⟩ := nb_facts nb1
  clear hb1 h1
  go_wp2_with fail
  refine Calls.mono (h2.out _) ?_
  rintro e w2 ⟨rfl, hb3⟩
  go_wp2
  go_ret2
  exact ⟨rfl, hb2.trans (hb3.mono hb2.size)⟩

set_option maxHeartbeats 4000000 in
theorem kbegin_yes (c : Conf) (w : World) (h : mayC c = true) : Calls Tryd.prog 4 #[confV c] w fun e w' => ∃ hb P, e = .returned (.tuple #[.pointer (some ⟨hb, 0, none⟩), .bool true]) ∧ KRep w' w.heap.size hb P [] [] ∧ PNew c P ∧ Below w.heap.size w w' := by
  have h1 := fun W => pnew_yes c W h
  have h2 := fun W => good_c c W
  rw [h] at h2
  unfold confV at h1 h2 ⊢
  clear h
  replace h1 : Hid _ := h1
  replace h2 : Hid _ := h2
  go_enter Tryd.func4, Tryd.ntmps4
  go_wp2_with fail
  refine Calls.mono (h1.out _) ?_
  rintro e w1 ⟨P, rfl, hpr, hpn, hb1⟩
  have nb1 : w1.heap[w.heap.size]? = some (.cells #[I c.kind, I c.depth, I c.start, I c.slots, I c.width, I c.spin, I c.drain, I c.procs] 23 (0, 0)) := (hb1.block _ (by simp)).trans (nb_alloc _ _ _)
  have hb2 : Below w.heap.size w w1 := ((Below.refl _ _).alloc (Nat.le_refl _) _).trans (hb1.mono (by simp))
  obtain ⟨f1, _⟩ := nb_facts nb1
  have HPR : Hid _ := hpr
  clear hb1 h1 hpr
  go_wp2_with fail
  refine Calls.mono (h2.out _) ?_
  rintro e w2 ⟨rfl, hb3⟩
  have nb2 := (hb3.block _ (Array.getElem?_eq_some_iff.1 nb1).1).trans nb1
  obtain ⟨g1, _⟩ := nb_facts nb2
  have hb4 := hb2.trans (hb3.mono hb2.size)
  have HP2 : Hid _ := HPR.out.below hb3
  clear f1 hb3 hb2 HPR
  go_wp2_with fail
  go_ret2
  have hcf := hpn.conf
  refine ⟨w2.heap.size, P, rfl, ⟨⟨.slice none 0 0, .slice none 0 0, ?_, World.ownsRow_nil _ _ _ _, World.ownsRow_nil _ _ _ _⟩, hb4.size, ?_, by rw [hpn.procs]; rfl, rfl⟩, hpn, hb4.alloc hb4.size _⟩
  · unfold handCells
    rw [hcf]
    exact nb_alloc _ _ _
  · exact (HP2.out.below ((Below.refl _ _).alloc (Nat.le_refl _) _)).base2 (by simp)

end Go.Proofs.YtjnmpejcegmkhabDoor

namespace Go.Proofs.YtjnmpejcegmkhabDoor
open Go.ChangeShapes Go.WideShapes Go.ChangeAt Go.RowKit Go.Joins

theorem ownK2 : ownKnob Tryd.prog.godebug = none := by kernel_rfl

theorem laidOut2 : laidOutB Tryd.prog = true := by kernel_rfl

set_option maxRecDepth 100000 in
theorem conf_open2 {H : Type} {enc : TypeId × Value → H} {W : World} {base : Nat} {held : Bool} {sp : Nat → Bool} {v : Value} {d : DataW H} {p : List MemPlace} {r : Reach} {b0 : Nat}
    (hv : Value.okWide Tryd.prog W r b0 23 v) (h : DataW.Trod enc Tryd.prog W base sp held 23 v d p) : ∃ c : Conf, v = confV c := by
  obtain ⟨cs, rfl, hsz⟩ := okWide_struct Tryd.underlying23 hv
  obtain ⟨fuel, hf⟩ := h
  obtain ⟨xs, n, h1, h2, hl, hlen, hf⟩ := DataW.trod_struct Tryd.underlying23 hf
  have hlen8 : xs.length = 8 := hlen
  have hcs8 : cs.toList.length = 8 := by
    have e8 : Tryd.prog.cellsOf 23 = 8 := by kernel_rfl
    rw [Array.length_toList, hsz, e8]
  have e1 : Tryd.prog.cellsOf 3 = 1 := by kernel_rfl
  have key : ∀ i, i < 8 → ∀ f : Field, f.type = 3 → f.offset = i → DataW.trod enc Tryd.prog W base sp held n f.type ((cs.toList.drop f.offset).take (Tryd.prog.cellsOf f.type)) = xs[i]? → ∃ a : Int, cs.toList[i]? = some (I a) := by
    intro i hi f ht ho hx
    rw [ht, ho, e1] at hx
    rw [List.getElem?_eq_getElem (by omega : i < xs.length)] at hx
    obtain ⟨a, hc, _⟩ := DataW.trod_int Tryd.underlying3 hx
    refine ⟨a, ?_⟩
    have := congrArg (fun l => l[0]?) hc
    simpa using this
  obtain ⟨a0, q0⟩ := key 0 (by omega) _ rfl rfl (hf 0 _ rfl)
  obtain ⟨a1, q1⟩ := key 1 (by omega) _ rfl rfl (hf 1 _ rfl)
  obtain ⟨a2, q2⟩ := key 2 (by omega) _ rfl rfl (hf 2 _ rfl)
  obtain ⟨a3, q3⟩ := key 3 (by omega) _ rfl rfl (hf 3 _ rfl)
  obtain ⟨a4, q4⟩ := key 4 (by omega) _ rfl rfl (hf 4 _ rfl)
  obtain ⟨a5, q5⟩ := key 5 (by omega) _ rfl rfl (hf 5 _ rfl)
  obtain ⟨a6, q6⟩ := key 6 (by omega) _ rfl rfl (hf 6 _ rfl)
  obtain ⟨a7, q7⟩ := key 7 (by omega) _ rfl rfl (hf 7 _ rfl)
  refine ⟨⟨a0, a1, a2, a3, a4, a5, a6, a7⟩, ?_⟩
  have el : cs.toList = [I a0, I a1, I a2, I a3, I a4, I a5, I a6, I a7] := by
    apply List.ext_getElem?
    intro i
    by_cases hi : i < 8
    · have : i = 0 ∨ i = 1 ∨ i = 2 ∨ i = 3 ∨ i = 4 ∨ i = 5 ∨ i = 6 ∨ i = 7 := by omega
      rcases this with rfl | rfl | rfl | rfl | rfl | rfl | rfl | rfl
      · exact q0
      · exact q1
      · exact q2
      · exact q3
      · exact q4
      · exact q5
      · exact q6
      · exact q7
    · rw [List.getElem?_eq_none (by omega), List.getElem?_eq_none (by simp; omega)]
  show Value.agg cs = .agg #[I a0, I a1, I a2, I a3, I a4, I a5, I a6, I a7]
  have ec : cs = #[I a0, I a1, I a2, I a3, I a4, I a5, I a6, I a7] := Array.toList_inj.1 el
  rw [ec]

structure ScrAt (w : World) (v : Value) (n : Nat) (l : Nat → Int × Int × Int) : Prop where
  form : ∃ ao cap, v = .slice ao n cap ∧ n ≤ cap ∧ n ≤ maxLen ∧ ∀ i, i < n → ∃ b off, ao = some ⟨b, off, none⟩ ∧ b < w.heap.size ∧
    w.cell? ⟨b, off + i * 3, none⟩ = some (I (l i).1) ∧ w.cell? ⟨b, off + i * 3 + 1, none⟩ = some (I (l i).2.1) ∧ w.cell? ⟨b, off + i * 3 + 2, none⟩ = some (I (l i).2.2)

set_option maxRecDepth 100000 in
theorem kop_open2 {H : Type} {enc : TypeId × Value → H} {W : World} {base n : Nat} {held : Bool} {sp : Nat → Bool} {cs : List Value} {x : DataW H × List MemPlace}
    (h : DataW.trod enc Tryd.prog W base sp held n 30 cs = some x) (hl : cs.length = 3) : ∃ q : Int × Int × Int, cs = [I q.1, I q.2.1, I q.2.2] := by
  obtain ⟨xs, m, h1, h2, _, hlen, hf⟩ := DataW.trod_struct Tryd.underlying30 h
  have hlen3 : xs.length = 3 := hlen
  have e1 : Tryd.prog.cellsOf 3 = 1 := by kernel_rfl
  have key : ∀ i, i < 3 → ∀ f : Field, f.type = 3 → f.offset = i → DataW.trod enc Tryd.prog W base sp held m f.type ((cs.drop f.offset).take (Tryd.prog.cellsOf f.type)) = xs[i]? → ∃ a : Int, cs[i]? = some (I a) := by
    intro i hi f ht ho hx
    rw [ht, ho, e1] at hx
    rw [List.getElem?_eq_getElem (by omega : i < xs.length)] at hx
    obtain ⟨a, hc, _⟩ := DataW.trod_int Tryd.underlying3 hx
    refine ⟨a, ?_⟩
    have := congrArg (fun l => l[0]?) hc
    simpa using this
  obtain ⟨a0, q0⟩ := key 0 (by omega) _ rfl rfl (hf 0 _ rfl)
  obtain ⟨a1, q1⟩ := key 1 (by omega) _ rfl rfl (hf 1 _ rfl)
  obtain ⟨a2, q2⟩ := key 2 (by omega) _ rfl rfl (hf 2 _ rfl)
  refine ⟨(a0, a1, a2), ?_⟩
  apply List.ext_getElem?
  intro i
  by_cases hi : i < 3
  · have : i = 0 ∨ i = 1 ∨ i = 2 := by omega
    rcases this with rfl | rfl | rfl
    · exact q0
    · exact q1
    · exact q2
  · rw [List.getElem?_eq_none (by omega), List.getElem?_eq_none (by simp; omega)]

theorem kscript_open2 {H : Type} {enc : TypeId × Value → H} {W : World} {base : Nat} {held : Bool} {ao : Option Addr} {len cap : Nat} {d : DataW H} {p : List MemPlace}
    (h : DataW.Trod enc Tryd.prog W base (fun _ => true) held 24 (.slice ao len cap) d p) : ∃ l, ScrAt W (.slice ao len cap) len l := by
  obtain ⟨fuel, hf⟩ := h
  rcases Go.Deep.open_slice Tryd.underlying24 hf with ⟨hcs, _⟩ | ⟨a, len', cap', m, n, D, Pl, hcs, _, hl, hm, hmm, _, hx⟩
  · simp [Value.cells] at hcs
    obtain ⟨rfl, rfl, rfl⟩ := hcs
    exact ⟨fun _ => (0, 0, 0), ⟨none, 0, rfl, Nat.le_refl _, Nat.zero_le _, fun i hi => absurd hi (by omega)⟩⟩
  · simp [Value.cells] at hcs
    obtain ⟨rfl, rfl, rfl⟩ := hcs
    have e3 : Tryd.prog.cellsOf 30 = 3 := by kernel_rfl
    simp only [if_true] at hmm
    subst hmm
    rw [e3] at hx
    have key : ∀ i, i < len → ∃ q : Int × Int × Int, ∃ b off, (some a : Option Addr) = some ⟨b, off, none⟩ ∧ b < W.heap.size ∧
        W.cell? ⟨b, off + i * 3, none⟩ = some (I q.1) ∧ W.cell? ⟨b, off + i * 3 + 1, none⟩ = some (I q.2.1) ∧ W.cell? ⟨b, off + i * 3 + 2, none⟩ = some (I q.2.2) := by
      intro i hi
      obtain ⟨cs', h1, h2⟩ := hx i (by omega)
      obtain ⟨_, hlen, hc⟩ := World.cells?_some h1
      obtain ⟨q, rfl⟩ := kop_open2 h2 hlen
      have c0 := hc 0 (by omega)
      have c1 := hc 1 (by omega)
      have c2 := hc 2 (by omega)
      obtain ⟨b, off, sp⟩ := a
      have hsp : sp = none := by
        cases sp with
        | none => rfl
        | some s =>
          exfalso
          obtain ⟨cs0, g1, g2⟩ := hx 0 (by omega)
          obtain ⟨_, glen, gc⟩ := World.cells?_some g1
          have g0 := gc 0 (by omega)
          rw [List.getElem?_eq_getElem (by omega)] at g0
          have ea : ((⟨b, off, some s⟩ : Addr).add (0 * 3)).add 0 = ⟨b, off, some s⟩ := by simp [Addr.add]
          rw [ea] at g0
          unfold World.cell? at g0
          split at g0 <;> simp at g0
      subst hsp
      have ad : ∀ j, ((⟨b, off, none⟩ : Addr).add (i * 3)).add j = ⟨b, off + i * 3 + j, none⟩ := by
        intro j
        unfold Addr.add
        split <;> split <;> simp_all
      rw [ad] at c0 c1 c2
      refine ⟨q, b, off, rfl, cell_lt c1, ?_, ?_, ?_⟩
      · simpa using c0
      · simpa using c1
      · simpa using c2
    obtain ⟨l, hl2⟩ := Go.Deep.choose_lt key
    exact ⟨l, ⟨some a, _, rfl, hl, Nat.le_trans hl hm, hl2⟩⟩

end Go.Proofs.YtjnmpejcegmkhabDoor

namespace Go.Proofs.YtjnmpejcegmkhabDoor
open Go.RowKit

/-- The first k steps of a script that are commands. -/
def sel (l : Nat → O3) : Nat → List O3
  | 0 => []
  | k + 1 => if txO (l k) = [] then sel l k else sel l k ++ [l k]
theorem sel_ok (l : Nat → O3) : ∀ k, ∀ o ∈ sel l k, txO o ≠ []
  | 0, o, ho => by simp [sel] at ho
  | k + 1, o, ho => by
    unfold sel at ho
    split at ho
    · exact sel_ok l k o ho
    · rename_i h
      rcases List.mem_append.1 ho with ho | ho
      · exact sel_ok l k o ho
      · simp at ho
        rw [ho]
        exact h
theorem chg_at {B : Nat} {T : List TypeId} {w w' : World} (h : ChgT B T w w') {k : Nat} {cs : Array Value} {e : TypeId} {f : Nat × Nat} (hk : w.heap[k]? = some (.cells cs e f)) (he : e ∉ T) : w'.heap[k]? = some (.cells cs e f) := by
  rw [h.block k (Array.getElem?_eq_some_iff.1 hk).1 (Or.inr fun c' e' f' hc => by
    rw [hk] at hc
    simp at hc
    rw [← hc.2.1]
    exact he)]
  exact hk

/-- Behind the commands of sc: the tree, and the hand's block that leads to it. -/
def ToAt (B : Nat) (c : Conf) (tb hb : Nat) (sc : List O3) (u : List UInt8) (w : World) : Prop :=
  (∃ arr : Array Value, w.heap[hb]? = some (.cells arr 36 (0, 0)) ∧ arr[0]? = some (.pointer (some ⟨tb, 0, none⟩))) ∧
  ((joinT sc).length ≤ 600 → u = (plA c (newL c) (sc.map cmO)).2.1 ∧ u.length ≤ 10000001 * sc.length ∧ PlAt B c tb (sc.map cmO) w)
theorem ToAt.below {B : Nat} {c : Conf} {tb hb : Nat} {sc : List O3} {u : List UInt8} {w w' : World} (h : ToAt B c tb hb sc u w) (hw : Below w.heap.size w w') : ToAt B c tb hb sc u w' := by
  obtain ⟨⟨arr, h1, h2⟩, h3⟩ := h
  refine ⟨⟨arr, (hw.block _ (Array.getElem?_eq_some_iff.1 h1).1).trans h1, h2⟩, fun hj => ?_⟩
  obtain ⟨a, b, d⟩ := h3 hj
  exact ⟨a, b, PlAt.below d hw⟩
theorem ToAt.cell {B : Nat} {c : Conf} {tb hb : Nat} {sc : List O3} {u : List UInt8} {w : World} (h : ToAt B c tb hb sc u w) : w.cell? ⟨hb, 0, none⟩ = some (.pointer (some ⟨tb, 0, none⟩)) := by
  obtain ⟨⟨arr, h1, h2⟩, _⟩ := h
  rw [(nb_facts h1).1 0]
  exact h2
/-- What was asked, joined; the answers beside it. -/
def wantJ (sc : List O3) (u : List UInt8) : List UInt8 := if sc = [] then u else u ++ [59]
/-- A command more that still fits. -/
theorem ToAt.more {B : Nat} {c : Conf} {tb hb : Nat} {sc : List O3} {u : List UInt8} {w : World} (h : ToAt B c tb hb sc u w) (o : O3) (ho : txO o ≠ []) (h6 : (joinT (sc ++ [o])).length ≤ 600) :
    Calls Tryd.prog 6 #[.pointer (some ⟨tb, 0, none⟩), .agg #[I o.1, I o.2.1, I o.2.2]] w fun e w' => ∃ a, e = .returned (S a) ∧ a.length ≤ 10000000 ∧ ToAt B c tb hb (sc ++ [o]) (wantJ sc u ++ a) w' ∧ ChgT B TT w w' ∧ B ≤ w.heap.size := by
  obtain ⟨⟨arr, h1, h2⟩, h3⟩ := h
  obtain ⟨hu, hul, P, rfl, hP⟩ := h3 (Nat.le_trans (join_grow sc o) h6)
  refine (answer_c hP o.1 o.2.1 o.2.2 ho).mono ?_
  rintro e w' ⟨rfl, ⟨P', e', h'⟩, hc⟩
  have hal := ans_len hP.vb hP.rel (cmOf o.1 o.2.1 o.2.2)
  refine ⟨_, rfl, hal, ⟨⟨arr, chg_at hc h1 (by decide), h2⟩, fun _ => ?_⟩, hc, hP.hB⟩
  have hs : plA c (newL c) ((sc ++ [o]).map cmO) = plS c (plA c (newL c) (sc.map cmO)) (cmO o) := by rw [List.map_append]; exact plA_snoc _ _ _ _
  refine ⟨?_, ?_, P', e', ?_⟩
  · rw [hs]
    unfold plS wantJ
    rw [plA_len, hu]
    simp only [List.length_map, List.length_eq_zero_iff]
  · have : (wantJ sc u).length ≤ u.length + 1 := by
      unfold wantJ
      split <;> simp
    simp only [List.length_append, List.length_cons, List.length_nil]
    omega
  · rw [hs]
    exact h'
/-- One that fits no more. -/
theorem ToAt.none {B : Nat} {c : Conf} {tb hb : Nat} {sc : List O3} {u u' : List UInt8} {w : World} (h : ToAt B c tb hb sc u w) (o : O3) (h6 : ¬ (joinT (sc ++ [o])).length ≤ 600) : ToAt B c tb hb (sc ++ [o]) u' w :=
  ⟨h.1, fun hj => absurd hj h6⟩
theorem told_play (c : Conf) (hm : mayC c = true) (sc : List O3) (hsc : ∀ o ∈ sc, txO o ≠ []) {u : List UInt8} {B tb hb : Nat} {w : World} (h : ToAt B c tb hb sc u w) :
    playT c (joinT sc) = if (joinT sc).length ≤ 600 then (u, 0) else ([], 7) := by
  unfold playT
  rw [hm, if_neg (by simp)]
  by_cases h6 : (joinT sc).length ≤ 600
  · rw [if_pos h6, rdText_join sc hsc h6]
    obtain ⟨hu, _⟩ := h.2 h6
    simp only [hu]
  · rw [if_neg h6]
    have : rdText (joinT sc) = none := by unfold rdText; rw [if_pos (by omega)]
    rw [this]

end Go.Proofs.YtjnmpejcegmkhabDoor

namespace Go.Proofs.YtjnmpejcegmkhabDoor
open Go.RowKit

set_option maxHeartbeats 8000000 in
set_option maxRecDepth 100000 in
theorem told_walk (c : Conf) (w : World) (v : Value) (n : Nat) (hn : n ≤ 1000000000000000) (l : Nat → Int × Int × Int) (hs : ScrAt w v n l) (h : Tab w) : Calls Tryd.prog 3 #[confV c, v] w fun e w' => e = .returned (.bool true) ∧ Below w.heap.size w w' := by
  obtain ⟨ao, cap, rfl, n1, n2, h4⟩ := hs.form
  unfold maxLen at n2
  have hba : Below w.heap.size w (w.alloc (.cells #[I c.kind, I c.depth, I c.start, I c.slots, I c.width, I c.spin, I c.drain, I c.procs] 23)) := (Below.refl _ _).alloc (Nat.le_refl _) _
  have noa : (w.alloc (.cells #[I c.kind, I c.depth, I c.start, I c.slots, I c.width, I c.spin, I c.drain, I c.procs] 23)).heap[w.heap.size]? = some (.cells #[I c.kind, I c.depth, I c.start, I c.slots, I c.width, I c.spin, I c.drain, I c.procs] 23 (0, 0)) := nb_alloc _ _ _
  have HTab : Hid (Tab w) := h
  have hSA := S_app
  have HTx : Hid (∀ W k a b, Below w.heap.size w W → Calls Tryd.prog 5 #[.agg #[I k, I a, I b]] W fun x w' => x = .returned (S (txOf k a b)) ∧ Below W.heap.size W w') := fun W k a b hW => ktext_c k a b (h.below hW)
  have HPl : Hid (∀ W t, t.length < 2 ^ 63 → Below w.heap.size w W → Calls Tryd.prog 7 #[.agg #[I c.kind, I c.depth, I c.start, I c.slots, I c.width, I c.spin, I c.drain, I c.procs], S t] W fun e w' => e = .returned (.tuple #[S (playT c t).1, I (playT c t).2]) ∧ Below W.heap.size W w') := fun W t ht hW => Play_c c t ht (h.below hW)
  have H4 : Hid _ := h4
  clear hs h4 h
  cases hm : mayC c with
  | false =>
    have hbg := fun W => kbegin_no c W hm
    have HP0 : Hid (∀ t, playT c t = ([], 1)) := by
      intro t
      unfold playT
      rw [hm, if_pos rfl]
    unfold confV at hbg ⊢
    replace hbg : Hid _ := hbg
    clear hm
    go_enter Tryd.func3, Tryd.ntmps3
    go_wp2_with fail
    refine Calls.mono (hbg.out _) ?_
    rintro e w1 ⟨rfl, hb1⟩
    have nb1 := (hb1.block _ (Array.getElem?_eq_some_iff.1 noa).1).trans noa
    have hb2 := hba.trans (hb1.mono hba.size)
    clear hb1 noa hba hbg
    go_wp2_with fail
    replace hb2 : Hid _ := hb2
    go_loopw [7, 8, 9, 10, 11] (fun ss ww ii _ _ wr => ∃ (k : Nat) (t u : List UInt8), k ≤ n ∧ ss = S t ∧ ww = S u ∧ ii = I k ∧ t.length ≤ 16 * k ∧ u.length ≤ k ∧ Hid (Below w.heap.size w wr) ∧ wr.heap[w.heap.size]? = some (.cells #[I c.kind, I c.depth, I c.start, I c.slots, I c.width, I c.spin, I c.drain, I c.procs] 23 (0, 0))) (fun _ _ ii _ _ _ => n - (intOf ii).toNat)
    case atStart => exact ⟨0, [], [], Nat.zero_le _, rfl, rfl, rfl, by simp, by simp, hb2, nb1⟩
    case round =>
      obtain ⟨k, t, u, hk, rfl, rfl, rfl, htl, hul, hbr, hcf⟩ := hrel
      obtain ⟨z1, _⟩ := nb_facts hcf
      by_cases hlt : k < n
      · have bl : decide ((k : Int) < (n : Int)) = true := by simp; omega
        obtain ⟨b, off, rfl, lb, p0, p1, p2⟩ := H4.out k hlt
        have d0 := (hbr.out.cell (p := ⟨b, off + k * 3, none⟩) lb).trans p0
        have d1 := (hbr.out.cell (p := ⟨b, off + k * 3 + 1, none⟩) lb).trans p1
        have d2 := (hbr.out.cell (p := ⟨b, off + k * 3 + 2, none⟩) lb).trans p2
        have hcall := HTx.out wr (l k).1 (l k).2.1 (l k).2.2 hbr.out
        have htx := tx_len (l k).1 (l k).2.1 (l k).2.2
        generalize txOf (l k).1 (l k).2.1 (l k).2.2 = x at *
        generalize (l k).1 = o1 at *
        generalize (l k).2.1 = o2 at *
        generalize (l k).2.2 = o3 at *
        replace hcall : Hid _ := hcall
        clear p0 p1 p2 z1 nb1
        go_wp2_with fail
        refine Calls.mono hcall.out ?_
        rintro e w5 ⟨rfl, hb5⟩
        have HB5 : Hid (Below w.heap.size w w5) := hbr.out.trans (hb5.mono hbr.out.size)
        have hcf5 := (hb5.block _ (Array.getElem?_eq_some_iff.1 hcf).1).trans hcf
        replace hcf5 : Hid _ := hcf5
        clear hcall hb5 hcf hbr d0 d1 d2
        by_cases hx : x = []
        · subst hx
          go_wp2
          refine ⟨⟨k + 1, t, u, by omega, rfl, rfl, rfl, by omega, by omega, HB5, hcf5.out⟩, ?_⟩
          show n - ((k : Int) + 1).toNat < n - (k : Int).toNat
          omega
        · have bx : x.isEmpty = false := by simp [hx]
          clear hx
          by_cases hte : t = []
          · subst hte
            have q1 : ¬ 9223372036854775807 < x.length := by omega
            go_wp2
            refine ⟨⟨k + 1, x, u, by omega, rfl, rfl, rfl, by omega, by omega, HB5, hcf5.out⟩, ?_⟩
            show n - ((k : Int) + 1).toNat < n - (k : Int).toNat
            omega
          · have bt : t.isEmpty = false := by simp [hte]
            have q1 : ¬ 9223372036854775807 < t.length + 1 := by omega
            have q2 : ¬ 9223372036854775807 < t.length + 1 + x.length := by omega
            have q3 : ¬ 9223372036854775807 < u.length + 1 := by omega
            clear hte
            go_wp2
            refine ⟨⟨k + 1, t ++ 59 :: x, u ++ [59], by omega, rfl, rfl, rfl, by simp; omega, by simp; omega, HB5, hcf5.out⟩, ?_⟩
            show n - ((k : Int) + 1).toNat < n - (k : Int).toNat
            omega
      · have bl : decide ((k : Int) < (n : Int)) = false := by simp; omega
        have hp := HPl.out wr t (by omega) hbr.out
        rw [HP0.out t] at hp
        replace hp : Hid _ := hp
        clear H4 HTx hcf nb1
        go_wp2_with fail
        refine Calls.mono hp.out ?_
        rintro e w5 ⟨rfl, hb5⟩
        go_wp2
        go_ret
        exact ⟨rfl, hbr.out.trans (hb5.mono hbr.out.size)⟩
  | true =>
    have hbg : Hid (∀ W, Below w.heap.size w W → Calls Tryd.prog 4 #[.agg #[I c.kind, I c.depth, I c.start, I c.slots, I c.width, I c.spin, I c.drain, I c.procs]] W fun e w' => ∃ hb tb, e = .returned (.tuple #[.pointer (some ⟨hb, 0, none⟩), .bool true]) ∧ ToAt W.heap.size c tb hb [] [] w' ∧ Below W.heap.size W w') := by
      intro W hW
      refine (kbegin_yes c W hm).mono ?_
      rintro e w' ⟨hb, P, rfl, hk, hn, hb'⟩
      obtain ⟨ov, wv, hblk, _⟩ := hk.blk
      refine ⟨hb, P.tb, rfl, ⟨⟨_, hblk, rfl⟩, fun _ => ⟨rfl, by simp, P, rfl, ?_⟩⟩, hb'⟩
      exact TSt.new hm hk.prog hn hb'.size ⟨w, HTab.out, hW.size, hW.trans (hb'.mono hW.size)⟩
    have HPT : Hid (∀ (sc : List O3) (u : List UInt8) (B tb hb : Nat) (W : World), (∀ o ∈ sc, txO o ≠ []) → ToAt B c tb hb sc u W → playT c (joinT sc) = if (joinT sc).length ≤ 600 then (u, 0) else ([], 7)) := fun sc u B tb hb W h1 h2 => told_play c hm sc h1 h2
    unfold confV
    clear hm
    go_enter Tryd.func3, Tryd.ntmps3
    go_wp2_with fail
    refine Calls.mono (hbg.out _ hba) ?_
    rintro e w1 ⟨hb, tb, rfl, hto, hb1⟩
    have nb1 := (hb1.block _ (Array.getElem?_eq_some_iff.1 noa).1).trans noa
    have hb2 : Hid (Below w.heap.size w w1) := hba.trans (hb1.mono hba.size)
    have HBs : Hid (w.heap.size < (w.alloc (.cells #[I c.kind, I c.depth, I c.start, I c.slots, I c.width, I c.spin, I c.drain, I c.procs] 23)).heap.size) := (Array.getElem?_eq_some_iff.1 noa).1
    generalize (w.alloc (.cells #[I c.kind, I c.depth, I c.start, I c.slots, I c.width, I c.spin, I c.drain, I c.procs] 23)).heap.size = B at *
    replace hto : Hid _ := hto
    clear hb1 noa hba hbg
    go_wp2_with fail
    go_loopw [7, 8, 9, 10, 11] (fun ss ww ii _ _ wr => ∃ (k : Nat) (t u : List UInt8), k ≤ n ∧ ss = S t ∧ ww = S u ∧ ii = I k ∧ Hid (t = joinT (sel l k)) ∧ t.length ≤ 16 * k ∧ u.length ≤ 6100000000 + k ∧ Hid (ToAt B c tb hb (sel l k) u wr) ∧ Hid (Below w.heap.size w wr) ∧ wr.heap[w.heap.size]? = some (.cells #[I c.kind, I c.depth, I c.start, I c.slots, I c.width, I c.spin, I c.drain, I c.procs] 23 (0, 0))) (fun _ _ ii _ _ _ => n - (intOf ii).toNat)
    case atStart => exact ⟨0, [], [], Nat.zero_le _, rfl, rfl, rfl, rfl, by simp, by simp, hto, hb2, nb1⟩
    case round =>
      obtain ⟨k, t, u, hk, rfl, rfl, rfl, htj, htl, hul, hto2, hbr, hcf⟩ := hrel
      obtain ⟨z1, _⟩ := nb_facts hcf
      by_cases hlt : k < n
      · have bl : decide ((k : Int) < (n : Int)) = true := by simp; omega
        obtain ⟨b, off, rfl, lb, p0, p1, p2⟩ := H4.out k hlt
        have d0 := (hbr.out.cell (p := ⟨b, off + k * 3, none⟩) lb).trans p0
        have d1 := (hbr.out.cell (p := ⟨b, off + k * 3 + 1, none⟩) lb).trans p1
        have d2 := (hbr.out.cell (p := ⟨b, off + k * 3 + 2, none⟩) lb).trans p2
        have hcall := HTx.out wr (l k).1 (l k).2.1 (l k).2.2 hbr.out
        have htx := tx_len (l k).1 (l k).2.1 (l k).2.2
        have HX : Hid (txO (l k) = txOf (l k).1 (l k).2.1 (l k).2.2) := rfl
        have HSel : Hid (sel l (k + 1) = if txO (l k) = [] then sel l k else sel l k ++ [l k]) := rfl
        have HJ : Hid (joinT (sel l k ++ [l k]) = (if sel l k = [] then [] else t ++ [59]) ++ txO (l k)) := by
          show _ = _
          rw [join_snoc, ← htj.out]
        have HE : Hid (t = [] ↔ sel l k = []) := by rw [htj.out]; exact join_empty (sel_ok l k)
        have HM : Hid (∀ W u', ToAt B c tb hb (sel l k) u' W → txO (l k) ≠ [] → (joinT (sel l k ++ [l k])).length ≤ 600 → Calls Tryd.prog 6 #[.pointer (some ⟨tb, 0, none⟩), .agg #[I (l k).1, I (l k).2.1, I (l k).2.2]] W fun e w' => ∃ a, e = .returned (S a) ∧ a.length ≤ 10000000 ∧ ToAt B c tb hb (sel l k ++ [l k]) (wantJ (sel l k) u' ++ a) w' ∧ ChgT B TT W w' ∧ B ≤ W.heap.size) := fun W u' h1 h2 h3 => ToAt.more h1 (l k) h2 h3
        have HNo : Hid (∀ u u' W, ToAt B c tb hb (sel l k) u W → ¬ (joinT (sel l k ++ [l k])).length ≤ 600 → ToAt B c tb hb (sel l k ++ [l k]) u' W) := fun u u' W h1 h2 => ToAt.none h1 (l k) h2
        have HUL : Hid (txO (l k) ≠ [] → (joinT (sel l k ++ [l k])).length ≤ 600 → u.length ≤ 10000001 * (sel l k).length ∧ (sel l k).length < 600) := by
          intro hx h6
          refine ⟨(hto2.out.2 (Nat.le_trans (join_grow _ _) h6)).2.1, ?_⟩
          have := joinT_len (sel l k ++ [l k]) (by
            intro o ho
            rcases List.mem_append.1 ho with ho | ho
            · exact sel_ok l k o ho
            · simp at ho; rw [ho]; exact hx)
          simp only [List.length_append, List.length_cons, List.length_nil] at this
          omega
        rw [HX.out] at HSel HJ HM HUL
        generalize txOf (l k).1 (l k).2.1 (l k).2.2 = x at *
        have HJE : Hid (∃ j, joinT (sel l k ++ [l k]) = j) := ⟨_, rfl⟩
        obtain ⟨j', HJE'⟩ := HJE.out
        rw [HJE'] at HJ HM HNo HUL
        replace HJE : Hid (joinT (sel l k ++ [l k]) = j') := HJE'
        clear HJE'
        generalize (l k).1 = o1 at *
        generalize (l k).2.1 = o2 at *
        generalize (l k).2.2 = o3 at *
        replace hcall : Hid _ := hcall
        clear p0 p1 p2 z1 nb1 HX
        go_wp2_with fail
        refine Calls.mono hcall.out ?_
        rintro e w5 ⟨rfl, hb5⟩
        have HB5 : Hid (Below w.heap.size w w5) := hbr.out.trans (hb5.mono hbr.out.size)
        have hcf5 := (hb5.block _ (Array.getElem?_eq_some_iff.1 hcf).1).trans hcf
        have HT5 : Hid (ToAt B c tb hb (sel l k) u w5) := ToAt.below hto2.out hb5
        have e0 := (hb5.cell (p := ⟨b, off + k * 3, none⟩) (cell_lt d0)).trans d0
        have e1 := (hb5.cell (p := ⟨b, off + k * 3 + 1, none⟩) (cell_lt d1)).trans d1
        have e2 := (hb5.cell (p := ⟨b, off + k * 3 + 2, none⟩) (cell_lt d2)).trans d2
        have eh := ToAt.cell HT5.out
        clear hcall hb5 hcf hbr d0 d1 d2 hto2
        by_cases hx : x = []
        · subst hx
          rw [if_pos rfl] at HSel
          replace hcf5 : Hid _ := hcf5
          clear e0 e1 e2 eh HJ HM HNo
          go_wp2
          refine ⟨⟨k + 1, t, u, by omega, rfl, rfl, rfl, ?_, by omega, by omega, ?_, HB5, hcf5.out⟩, ?_⟩
          · rw [HSel.out]; exact htj
          · rw [HSel.out]; exact HT5
          · show n - ((k : Int) + 1).toNat < n - (k : Int).toNat
            omega
        · have bx : x.isEmpty = false := by simp [hx]
          rw [if_neg hx] at HSel
          replace HM : Hid _ := fun W u' h1 h3 => HM.out W u' h1 hx h3
          replace HUL : Hid _ := fun h6 => HUL.out hx h6
          clear hx
          by_cases hte : t = []
          · have hse := HE.out.1 hte
            subst hte
            rw [if_pos hse] at HJ
            have HW1 : Hid (wantJ (sel l k) u = u) := by show _ = _; unfold wantJ; rw [if_pos hse]
            have HJ1 : Hid (joinT (sel l (k + 1)) = x) := by show _ = _; rw [HSel.out, HJE.out, HJ.out]; rfl
            have q1 : ¬ 9223372036854775807 < x.length := by omega
            clear hse
            by_cases h6 : x.length ≤ 600
            · have b6 : decide ((x.length : Int) ≤ 600) = true := by simp; omega
              have hj6 : j'.length ≤ 600 := by rw [HJ.out]; simpa using h6
              obtain ⟨u1, u2⟩ := HUL.out hj6
              have HS : Hid (∀ W, Below w5.heap.size w5 W → W.cell? ⟨b, off + k * 3, none⟩ = some (I o1) ∧ W.cell? ⟨b, off + k * 3 + 1, none⟩ = some (I o2) ∧ W.cell? ⟨b, off + k * 3 + 2, none⟩ = some (I o3) ∧ W.cell? ⟨hb, 0, none⟩ = some (.pointer (some ⟨tb, 0, none⟩))) := by
                intro W hW
                exact ⟨(hW.cell (p := ⟨b, off + k * 3, none⟩) (cell_lt e0)).trans e0, (hW.cell (p := ⟨b, off + k * 3 + 1, none⟩) (cell_lt e1)).trans e1, (hW.cell (p := ⟨b, off + k * 3 + 2, none⟩) (cell_lt e2)).trans e2, (hW.cell (p := ⟨hb, 0, none⟩) (cell_lt eh)).trans eh⟩
              have HS2 : Hid (∀ W a, Hid (ToAt B c tb hb (sel l k ++ [l k]) (u ++ a) W) → Hid (Below B w5 W) → W.cell? ⟨b, off + k * 3, none⟩ = some (I o1) ∧ W.cell? ⟨b, off + k * 3 + 1, none⟩ = some (I o2) ∧ W.cell? ⟨b, off + k * 3 + 2, none⟩ = some (I o3) ∧ W.cell? ⟨hb, 0, none⟩ = some (.pointer (some ⟨tb, 0, none⟩))) := by
                intro W a hto hW
                have lb' : b < B := Nat.lt_trans lb HBs.out
                exact ⟨(hW.out.cell (p := ⟨b, off + k * 3, none⟩) lb').trans e0, (hW.out.cell (p := ⟨b, off + k * 3 + 1, none⟩) lb').trans e1, (hW.out.cell (p := ⟨b, off + k * 3 + 2, none⟩) lb').trans e2, ToAt.cell hto.out⟩
              have hB5 : B ≤ w5.heap.size := PlAt.hB (HT5.out.2 (Nat.le_trans (join_grow (sel l k) (l k)) (by rw [HJE.out]; exact hj6))).2.2
              have HC : Hid (∀ W, Hid (Below w5.heap.size w5 W) → Calls Tryd.prog 6 #[.pointer (some ⟨tb, 0, none⟩), .agg #[I o1, I o2, I o3]] W fun e w' => ∃ a, e = .returned (S a) ∧ a.length ≤ 10000000 ∧ Hid (ToAt B c tb hb (sel l k ++ [l k]) (u ++ a) w') ∧ Hid (Below B w5 w')) := by
                intro W hW
                have hx := HM.out W u (ToAt.below HT5.out hW.out) hj6
                rw [HW1.out] at hx
                refine hx.mono ?_
                rintro e w' ⟨a, rfl, h1, h2, h3, h4⟩
                exact ⟨a, rfl, h1, h2, (hW.out.mono hB5).trans (h3.below h4)⟩
              have HCF : Hid (∀ w', Hid (Below B w5 w') → w'.heap[w.heap.size]? = some (.cells #[I c.kind, I c.depth, I c.start, I c.slots, I c.width, I c.spin, I c.drain, I c.procs] 23 (0, 0)) ∧ Hid (Below w.heap.size w w')) := fun w' hw => ⟨(hw.out.block _ HBs.out).trans hcf5, HB5.out.trans (hw.out.mono (Nat.le_of_lt HBs.out))⟩
              replace hcf5 : Hid _ := hcf5
              clear hj6 HM HNo HUL
              go_wp2_with fail
              go_region_held3 (fun W => W.cell? ⟨b, off + k * 3, none⟩ = some (I o1) ∧ W.cell? ⟨b, off + k * 3 + 1, none⟩ = some (I o2) ∧ W.cell? ⟨b, off + k * 3 + 2, none⟩ = some (I o3) ∧ W.cell? ⟨hb, 0, none⟩ = some (.pointer (some ⟨tb, 0, none⟩))) (first | exact HS.out _ (Below.drewN' (Below.refl _ _) 1) | exact HS2.out _ _ hto6 hb6) (first | (go_at_call 6; refine (HC.out _ (Below.drewN' (Below.refl _ _) 1)).mono ?_; rintro e w' ⟨a, rfl, hal, hto6, hb6⟩))
              obtain ⟨hcf6, HB6⟩ := HCF.out _ hb6
              replace hcf6 : Hid _ := hcf6
              have q6 : ¬ 9223372036854775807 < u.length + a.length := by omega
              clear HC HCF HS HS2 e0 e1 e2 eh
              go_wp2
              refine ⟨⟨k + 1, x, u ++ a, by omega, rfl, rfl, rfl, HJ1.out.symm, by first | omega | (simp; omega), by first | omega | (simp; omega), ?_, HB6, hcf6.out⟩, ?_⟩
              · rw [HSel.out]; exact hto6
              · show n - ((k : Int) + 1).toNat < n - (k : Int).toNat
                omega
            · have b6 : decide ((x.length : Int) ≤ 600) = false := by simp; omega
              have hj6 : ¬ j'.length ≤ 600 := by rw [HJ.out]; simpa using h6
              replace hcf5 : Hid _ := hcf5
              have HT6 : Hid (ToAt B c tb hb (sel l k ++ [l k]) u w5) := HNo.out u u w5 HT5.out hj6
              clear hj6 HM HNo HUL e0 e1 e2 eh
              go_wp2
              refine ⟨⟨k + 1, x, u, by omega, rfl, rfl, rfl, HJ1.out.symm, by omega, by omega, ?_, HB5, hcf5.out⟩, ?_⟩
              · rw [HSel.out]; exact HT6
              · show n - ((k : Int) + 1).toNat < n - (k : Int).toNat
                omega
          · have hse : sel l k ≠ [] := fun e => hte (HE.out.2 e)
            have bt : t.isEmpty = false := by simp [hte]
            rw [if_neg hse] at HJ
            have HW1 : Hid (wantJ (sel l k) u = u ++ [59]) := by show _ = _; unfold wantJ; rw [if_neg hse]
            have HJ1 : Hid (joinT (sel l (k + 1)) = t ++ 59 :: x) := by show _ = _; rw [HSel.out, HJE.out, HJ.out]; simp
            have q1 : ¬ 9223372036854775807 < t.length + 1 := by omega
            have q2 : ¬ 9223372036854775807 < t.length + 1 + x.length := by omega
            have q3 : ¬ 9223372036854775807 < u.length + 1 := by omega
            clear hse hte
            by_cases h6 : t.length + (x.length + 1) ≤ 600
            · have b6 : decide ((t.length : Int) + ((x.length : Int) + 1) ≤ 600) = true := by simp; omega
              have hj6 : j'.length ≤ 600 := by rw [HJ.out]; simp; omega
              obtain ⟨u1, u2⟩ := HUL.out hj6
              have HS : Hid (∀ W, Below w5.heap.size w5 W → W.cell? ⟨b, off + k * 3, none⟩ = some (I o1) ∧ W.cell? ⟨b, off + k * 3 + 1, none⟩ = some (I o2) ∧ W.cell? ⟨b, off + k * 3 + 2, none⟩ = some (I o3) ∧ W.cell? ⟨hb, 0, none⟩ = some (.pointer (some ⟨tb, 0, none⟩))) := by
                intro W hW
                exact ⟨(hW.cell (p := ⟨b, off + k * 3, none⟩) (cell_lt e0)).trans e0, (hW.cell (p := ⟨b, off + k * 3 + 1, none⟩) (cell_lt e1)).trans e1, (hW.cell (p := ⟨b, off + k * 3 + 2, none⟩) (cell_lt e2)).trans e2, (hW.cell (p := ⟨hb, 0, none⟩) (cell_lt eh)).trans eh⟩
              have HS2 : Hid (∀ W a, Hid (ToAt B c tb hb (sel l k ++ [l k]) ((u ++ [59]) ++ a) W) → Hid (Below B w5 W) → W.cell? ⟨b, off + k * 3, none⟩ = some (I o1) ∧ W.cell? ⟨b, off + k * 3 + 1, none⟩ = some (I o2) ∧ W.cell? ⟨b, off + k * 3 + 2, none⟩ = some (I o3) ∧ W.cell? ⟨hb, 0, none⟩ = some (.pointer (some ⟨tb, 0, none⟩))) := by
                intro W a hto hW
                have lb' : b < B := Nat.lt_trans lb HBs.out
                exact ⟨(hW.out.cell (p := ⟨b, off + k * 3, none⟩) lb').trans e0, (hW.out.cell (p := ⟨b, off + k * 3 + 1, none⟩) lb').trans e1, (hW.out.cell (p := ⟨b, off + k * 3 + 2, none⟩) lb').trans e2, ToAt.cell hto.out⟩
              have hB5 : B ≤ w5.heap.size := PlAt.hB (HT5.out.2 (Nat.le_trans (join_grow (sel l k) (l k)) (by rw [HJE.out]; exact hj6))).2.2
              have HC : Hid (∀ W, Hid (Below w5.heap.size w5 W) → Calls Tryd.prog 6 #[.pointer (some ⟨tb, 0, none⟩), .agg #[I o1, I o2, I o3]] W fun e w' => ∃ a, e = .returned (S a) ∧ a.length ≤ 10000000 ∧ Hid (ToAt B c tb hb (sel l k ++ [l k]) ((u ++ [59]) ++ a) w') ∧ Hid (Below B w5 w')) := by
                intro W hW
                have hx := HM.out W u (ToAt.below HT5.out hW.out) hj6
                rw [HW1.out] at hx
                refine hx.mono ?_
                rintro e w' ⟨a, rfl, h1, h2, h3, h4⟩
                exact ⟨a, rfl, h1, h2, (hW.out.mono hB5).trans (h3.below h4)⟩
              have HCF : Hid (∀ w', Hid (Below B w5 w') → w'.heap[w.heap.size]? = some (.cells #[I c.kind, I c.depth, I c.start, I c.slots, I c.width, I c.spin, I c.drain, I c.procs] 23 (0, 0)) ∧ Hid (Below w.heap.size w w')) := fun w' hw => ⟨(hw.out.block _ HBs.out).trans hcf5, HB5.out.trans (hw.out.mono (Nat.le_of_lt HBs.out))⟩
              replace hcf5 : Hid _ := hcf5
              clear hj6 HM HNo HUL
              go_wp2_with fail
              go_region_held3 (fun W => W.cell? ⟨b, off + k * 3, none⟩ = some (I o1) ∧ W.cell? ⟨b, off + k * 3 + 1, none⟩ = some (I o2) ∧ W.cell? ⟨b, off + k * 3 + 2, none⟩ = some (I o3) ∧ W.cell? ⟨hb, 0, none⟩ = some (.pointer (some ⟨tb, 0, none⟩))) (first | exact HS.out _ (Below.drewN' (Below.refl _ _) 1) | exact HS2.out _ _ hto6 hb6) (first | (go_at_call 6; refine (HC.out _ (Below.drewN' (Below.refl _ _) 1)).mono ?_; rintro e w' ⟨a, rfl, hal, hto6, hb6⟩))
              obtain ⟨hcf6, HB6⟩ := HCF.out _ hb6
              replace hcf6 : Hid _ := hcf6
              have q6 : ¬ 9223372036854775807 < u.length + 1 + a.length := by omega
              clear HC HCF HS HS2 e0 e1 e2 eh
              go_wp2
              refine ⟨⟨k + 1, t ++ 59 :: x, (u ++ [59]) ++ a, by omega, rfl, by simp, rfl, HJ1.out.symm, by first | omega | (simp; omega), by first | omega | (simp; omega), ?_, HB6, hcf6.out⟩, ?_⟩
              · rw [HSel.out]; exact hto6
              · show n - ((k : Int) + 1).toNat < n - (k : Int).toNat
                omega
            · have b6 : decide ((t.length : Int) + ((x.length : Int) + 1) ≤ 600) = false := by simp; omega
              have hj6 : ¬ j'.length ≤ 600 := by rw [HJ.out]; simp; omega
              replace hcf5 : Hid _ := hcf5
              have HT6 : Hid (ToAt B c tb hb (sel l k ++ [l k]) (u ++ [59]) w5) := HNo.out u (u ++ [59]) w5 HT5.out hj6
              clear hj6 HM HNo HUL e0 e1 e2 eh
              go_wp2
              refine ⟨⟨k + 1, t ++ 59 :: x, u ++ [59], by omega, rfl, rfl, rfl, HJ1.out.symm, by simp; omega, by simp; omega, ?_, HB5, hcf5.out⟩, ?_⟩
              · rw [HSel.out]; exact HT6
              · show n - ((k : Int) + 1).toNat < n - (k : Int).toNat
                omega
      · have bl : decide ((k : Int) < (n : Int)) = false := by simp; omega
        have hp := HPl.out wr t (by omega) hbr.out
        have hpt := HPT.out (sel l k) u B tb hb wr (sel_ok l k) hto2.out
        rw [← htj.out] at hpt
        rw [hpt] at hp
        clear H4 HTx hcf nb1 hpt HPT HPl
        by_cases h6 : t.length ≤ 600
        · rw [if_pos h6] at hp
          have b6 : decide ((t.length : Int) > 600) = false := by simp; omega
          replace hp : Hid _ := hp
          go_wp2_with fail
          refine Calls.mono hp.out ?_
          rintro e w5 ⟨rfl, hb5⟩
          go_wp2
          go_ret
          exact ⟨rfl, hbr.out.trans (hb5.mono hbr.out.size)⟩
        · rw [if_neg h6] at hp
          have b6 : decide ((t.length : Int) > 600) = true := by simp; omega
          replace hp : Hid _ := hp
          go_wp2_with fail
          refine Calls.mono hp.out ?_
          rintro e w5 ⟨rfl, hb5⟩
          go_wp2
          go_ret
          exact ⟨rfl, hbr.out.trans (hb5.mono hbr.out.size)⟩

end Go.Proofs.YtjnmpejcegmkhabDoor

namespace Go.Proofs.YtjnmpejcegmkhabDoor
open Go.ChangeShapes Go.WideShapes Go.ChangeAt Go.RowKit Go.Joins

theorem gTab : Tryd.prog.globalNamed "internal/strconv.uint64pow10" = some 0 := by kernel_rfl
theorem gTabType : (Tryd.prog.globals[0]?).map (·.type) = some 131 := by kernel_rfl
theorem cellsPT : Tryd.prog.cellsOf 131 = 20 := by kernel_rfl
theorem cellsPE : Tryd.prog.cellsOf 114 = 1 := by kernel_rfl
theorem undPT : Tryd.prog.underlying 131 = some (.array 20 114) := by kernel_rfl
theorem undPE : Tryd.prog.underlying 114 = some (.int .u64) := by kernel_rfl
/-- The table of powers lies third on the list. -/
theorem told_tab {W : World} (h : laidMetH Tryd.prog Rows.toldRow.laid W) : Tab W := by
  have h' : laidMet Tryd.prog [("math/bits.deBruijn32tab", Rows.laid_math_bits_deBruijn32tab), ("math/bits.deBruijn64tab", Rows.laid_math_bits_deBruijn64tab), ("internal/strconv.uint64pow10", Lib.tabData .u64 Lib.pow10Tab)] W := h
  obtain ⟨ps, ⟨_, _, _, _, _, q1, _, _, _, _, hL1, _⟩, _⟩ := h'
  obtain ⟨_, _, _, _, _, q2, _, _, _, _, hL2, _⟩ := hL1
  obtain ⟨g', t', cs, fuel, p, q, hg', ht', hvar, hd, _, _⟩ := hL2
  obtain rfl := Option.some.inj (gTab.symm.trans hg')
  obtain rfl := Option.some.inj (gTabType.symm.trans ht')
  show World.var? _ _ _ = _
  rw [hvar, ← Lib.cells_of_tab undPT undPE cellsPE cellsPT hd]

def layT (h : Array Obj) (i : Nat) (cs : Array Value) : Array Obj := h.modify i fun
  | .cells _ t frozen => .cells cs t frozen
  | o => o
def toldHeap (h : Array Obj) : Array Obj := layT (layT (layT h 0 #[.int .u64 1, .int .u64 10, .int .u64 100, .int .u64 1000, .int .u64 10000, .int .u64 100000, .int .u64 1000000, .int .u64 10000000, .int .u64 100000000, .int .u64 1000000000, .int .u64 10000000000, .int .u64 100000000000, .int .u64 1000000000000, .int .u64 10000000000000, .int .u64 100000000000000, .int .u64 1000000000000000, .int .u64 10000000000000000, .int .u64 100000000000000000, .int .u64 1000000000000000000, .int .u64 10000000000000000000]) 1 #[.int .u8 0, .int .u8 1, .int .u8 28, .int .u8 2, .int .u8 29, .int .u8 14, .int .u8 24, .int .u8 3, .int .u8 30, .int .u8 22, .int .u8 20, .int .u8 15, .int .u8 25, .int .u8 17, .int .u8 4, .int .u8 8, .int .u8 31, .int .u8 27, .int .u8 13, .int .u8 23, .int .u8 21, .int .u8 19, .int .u8 16, .int .u8 7, .int .u8 26, .int .u8 12, .int .u8 18, .int .u8 6, .int .u8 11, .int .u8 5, .int .u8 10, .int .u8 9]) 2 #[.int .u8 0, .int .u8 1, .int .u8 56, .int .u8 2, .int .u8 57, .int .u8 49, .int .u8 28, .int .u8 3, .int .u8 61, .int .u8 58, .int .u8 42, .int .u8 50, .int .u8 38, .int .u8 29, .int .u8 17, .int .u8 4, .int .u8 62, .int .u8 47, .int .u8 59, .int .u8 36, .int .u8 45, .int .u8 43, .int .u8 51, .int .u8 22, .int .u8 53, .int .u8 39, .int .u8 33, .int .u8 30, .int .u8 24, .int .u8 18, .int .u8 12, .int .u8 5, .int .u8 63, .int .u8 55, .int .u8 48, .int .u8 27, .int .u8 60, .int .u8 41, .int .u8 37, .int .u8 16, .int .u8 46, .int .u8 35, .int .u8 44, .int .u8 21, .int .u8 52, .int .u8 32, .int .u8 23, .int .u8 11, .int .u8 54, .int .u8 26, .int .u8 40, .int .u8 15, .int .u8 34, .int .u8 20, .int .u8 31, .int .u8 10, .int .u8 25, .int .u8 14, .int .u8 19, .int .u8 9, .int .u8 13, .int .u8 8, .int .u8 7, .int .u8 6]
abbrev toldArgs : Array Value := #[.agg #[.int .i64 0, .int .i64 0, .int .i64 0, .int .i64 0, .int .i64 0, .int .i64 0, .int .i64 0, .int .i64 0], .slice none 0 0]
set_option maxRecDepth 100000 in
theorem told_met (os : Os) : laidMet Tryd.prog Rows.toldRow.laid (({ World.holding Tryd.prog os ⟨#[], #[], []⟩ with heap := toldHeap (World.holding Tryd.prog os ⟨#[], #[], []⟩).heap } : World).forCall (fun _ _ => 0) ⟨#[], toldArgs, []⟩).memory :=
  laidMet_of_run' 8 (by kernel_rfl) (by kernel_rfl)
set_option maxRecDepth 100000 in
theorem told_reads (os : Os) {H : Type} (enc : TypeId × Value → H) : ∃ places, DataW.whole enc Tryd.prog (({ World.holding Tryd.prog os ⟨#[], #[], []⟩ with heap := toldHeap (World.holding Tryd.prog os ⟨#[], #[], []⟩).heap } : World).forCall (fun _ _ => 0) ⟨#[], toldArgs, []⟩).memory Tryd.f3.params.toList Rows.toldSpec.vars false toldArgs.toList 8 = some ([.agg [.lit (.int .i64 0), .lit (.int .i64 0), .lit (.int .i64 0), .lit (.int .i64 0), .lit (.int .i64 0), .lit (.int .i64 0), .lit (.int .i64 0), .lit (.int .i64 0)], .nil], [], places) :=
  ⟨[], by kernel_rfl⟩

/-- How long a script is, by what was read of it. -/
theorem script_len {H : Type} {enc : TypeId × Value → H} {W : World} {base : Nat} {held : Bool} {ao : Option Addr} {len cap : Nat} {d : DataW H} {p : List MemPlace}
    (h : DataW.Trod enc Tryd.prog W base (fun _ => true) held 24 (.slice ao len cap) d p) : len = 0 ∨ ∃ elems spare, d = .slice elems spare ∧ elems.length = len := by
  obtain ⟨fuel, hf⟩ := h
  rcases Go.Deep.open_slice Tryd.underlying24 hf with ⟨hcs, _⟩ | ⟨a, len', cap', m, n, D, Pl, hcs, _, hl, hm, hmm, hd, hx⟩
  · simp [Value.cells] at hcs
    exact Or.inl hcs.2.1
  · simp [Value.cells] at hcs
    obtain ⟨rfl, rfl, rfl⟩ := hcs
    simp only [Prod.mk.injEq] at hd
    exact Or.inr ⟨_, _, hd.1, by simp⟩

set_option maxRecDepth 100000 in
theorem told_lifted (os : Os) (started : os.Started) (H : Type) (enc : TypeId × Value → H) (F : Stop.Interp) :
    ReturnsInHanded {} Tryd.checked os 3 .any ((OpenSpec.ofChange Rows.toldSpec).preRow enc Tryd.prog Tryd.f3 Rows.toldRow.domain false Rows.toldRow.laid) (((OpenSpec.ofChange Rows.toldSpec).at F).post enc Tryd.prog Tryd.f3 false true false false) := by
  obtain ⟨places, hx⟩ := told_reads os enc
  refine returnsInHanded_of_row (C := Tryd.checked) (s := OpenSpec.ofChange Rows.toldSpec) ownK2 started (by kernel_rfl) Tryd.func3
    (witness_row_at (enc := enc) (C := Tryd.checked) false ({ World.holding Tryd.prog os ⟨#[], #[], []⟩ with heap := toldHeap (World.holding Tryd.prog os ⟨#[], #[], []⟩).heap } : World) toldArgs rfl (by kernel_rfl) (by kernel_rfl) (by kernel_rfl)
      (OpenSpec.preRow_of_cond 8 hx (by kernel_rfl) (fun k hk => by cases hk) (by kernel_rfl) (told_met os))) ?_
  intro W base args ds gs before hval0 hW0 _ _ hz0 hL _ _
  have hW : DataW.Whole enc Tryd.prog Tryd.f3.params.toList [] false W args.toList ds gs before := hW0
  have hval : ∀ (j : Nat) t v, Tryd.f3.params[j]? = some t → args[j]? = some v → Value.okWide Tryd.prog W .any base t v := hval0
  have hW' := hW
  obtain ⟨p, q, hA0, hV, rfl, _, _⟩ := hW
  have hA : DataW.TrodAll enc Tryd.prog W 0 (fun _ => true) true Tryd.f3.params.toList args.toList ds p := hA0
  rw [Tryd.params3] at hA hval
  obtain ⟨v0, vs0, d0, ds0, p0, q0, hargs, rfl, rfl, h0, r0⟩ := trodAll_cons hA
  obtain ⟨v1, vs1, d1, ds1, p1, q1, rfl, rfl, rfl, h1, r1⟩ := trodAll_cons r0
  obtain ⟨rfl, rfl, rfl⟩ := trodAll_nil r1
  obtain rfl : args = #[v0, v1] := by cases args; simp_all
  obtain ⟨rfl, rfl⟩ := trodVars_none hV
  have k0 := h0
  have k1 := h1
  have lt0 : ∀ x ∈ p0, x.block < W.heap.size := by obtain ⟨m, hm⟩ := k0; exact DataW.trod_lt m _ _ _ hm
  have lt1 : ∀ x ∈ p1, x.block < W.heap.size := by obtain ⟨m, hm⟩ := k1; exact DataW.trod_lt m _ _ _ hm
  obtain ⟨c, rfl⟩ := conf_open2 (hval 0 23 v0 rfl rfl) h0
  obtain ⟨a1, len1, cap1, rfl⟩ := okWide_slice Tryd.underlying24 (hval 1 24 v1 rfl rfl)
  obtain ⟨l, hs⟩ := kscript_open2 h1
  have hn : len1 ≤ 1000000000000000 := by
    rcases script_len h1 with h0 | ⟨elems, spare, e, el⟩
    · omega
    · subst e
      have hz : (DataW.weightsEach Tryd.prog (Tryd.f3.params.toList ++ Rows.toldSpec.plain.varTypes Tryd.prog) ([d0, .slice elems spare] ++ [])).all (· ≤ reachBytes) = true := hz0
      have := sized_slice hz (j := 1) (t := 24) (e := 30) (elems := elems) (spare := spare) (by rw [Tryd.params3]; rfl) rfl Tryd.underlying24
      have hb : Tryd.prog.bytesOf 30 = 24 := by kernel_rfl
      rw [hb] at this
      unfold reachBytes at this
      omega
  clear hA0 hval0
  refine (told_walk c W _ len1 hn l hs (told_tab hL)).mono fun e W' ⟨he, bel⟩ => ?_
  subst he
  exact ⟨_, rfl, _, _, _, [], _, [], hW', trodAll_mk1 (shut_bool Tryd.underlying4 _), (trodAll_cons_mk (Below.trod laidOut2 (by kernel_rfl) (of_decide_eq_true (by kernel_rfl)) k0 bel lt0) (trodAll_cons_mk (Below.trod laidOut2 (by kernel_rfl) (of_decide_eq_true (by kernel_rfl)) k1 bel lt1) trodAll_mk0)), rfl, bel.frame _, fun h => by cases h⟩

theorem told_said : Rows.ToldSaid :=
  OpenClaim.holds_of_cond 3 Tryd.f3 rfl rfl rfl rfl rfl rfl rfl ⟨rfl, rfl, rfl, rfl, rfl⟩ rfl rfl rfl rfl rfl (by kernel_rfl) Tryd.func3 (by kernel_rfl)
    (of_decide_eq_true (by kernel_rfl)) (by unfold Func.isWrapper; first | (rw [if_pos (by decide +kernel)]; kernel_rfl) | (rw [if_neg (by decide +kernel)]; exact ⟨rfl, rfl⟩))
    (fun os started H enc _ F => by rw [OpenClaim.pre_eq_preRow]; exact told_lifted os started H enc F)

theorem told_plain (f : FuncId) (fn : Func) (hf : Tryd.pinned.checked.prog.funcNamed "prism/prismkeep.Told" = some f) (hfn : Tryd.pinned.checked.prog.funcs[f]? = some fn) :
    false = Tryd.pinned.checked.prog.looks [] ∧ ∀ (j : Nat) t, fn.params[j]? = some t → Tryd.pinned.checked.prog.wantsStandIn t = false := by
  obtain rfl : f = 3 := Option.some.inj ((show Tryd.prog.funcNamed "prism/prismkeep.Told" = some 3 by kernel_rfl).symm.trans hf) |>.symm
  obtain rfl : fn = Tryd.f3 := (Option.some.inj (Tryd.func3.symm.trans hfn)).symm
  refine ⟨by kernel_rfl, fun j t ht => ?_⟩
  rw [Tryd.params3] at ht
  have h3 : t = 23 ∨ t = 24 := by simpa using Array.mem_of_getElem? ht
  rcases h3 with rfl | rfl
  · exact (show Tryd.prog.wantsStandIn 23 = false by kernel_rfl)
  · exact (show Tryd.prog.wantsStandIn 24 = false by kernel_rfl)

theorem told_holds : Rows.ToldCardSaid :=
  Claim7.holds_tied_plain_at .later [] _ _ _ _ told_said (fun _ h => by cases h) (by kernel_rfl) (fun _ h => by cases h) told_row_tie rfl ⟨rfl, rfl⟩ (by kernel_rfl) rfl told_plain (by kernel_rfl)

#print axioms told_holds
end Go.Proofs.YtjnmpejcegmkhabDoor
