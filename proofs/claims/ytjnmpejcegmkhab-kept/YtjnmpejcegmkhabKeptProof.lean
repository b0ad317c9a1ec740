/- The contract of package prismkeep's settle: behind P15's rounds everybody has arrived. No statement of the seat is proved here. The contract of package prismkeep's settle, of a pool: behind P15's rounds everybody has arrived. No statement of the seat is proved here. The contract of package prismkeep's ended. No statement of the seat is proved here. A still tree is even (P12), of the document's tree alone. No statement of the seat is proved here. Contracts of package prismkeep's up, still and even. No statement of the seat is proved here. What prismkeep counts of a value (the document's tree alone). No statement of the seat is proved here. The contract of package prismkeep's value: in a pool it answers true. No statement of the seat is proved here. The contract of package prismkeep's values: in a pool it answers true. No statement of the seat is proved here. Contracts of package prismkeep's still and even. No statement of the seat is proved here. Contracts of package prismkeep's begin. No statement of the seat is proved here. Arguments of the statements of package prismkeep, opened. No statement of the seat is proved here. The walk of the statement Kept: for every configuration, script and list of picks the call answers true, and what was there is as it was. The statement Kept: for every configuration (any eight numbers), every script (any list of steps, raw) and every list of numbers the call of prismkeep.Kept returns true, and its arguments read as they did before. No condition. -/
import Derived.Test.YtjnmpejcegmkhabKp1
import Derived.Deep.DeepCutAuto
import Derived.Deep.QuietTactic
import Derived.BigQuiet
import Derived.Laws.AppendOwnNone
import Derived.Test.YtjnmpejcegmkhabRefStA
import Derived.Test.YtjnmpejcegmkhabCInv
import Derived.Test.YtjnmpejcegmkhabNew0
import Derived.Test.YtjnmpejcegmkhabRows
import Derived.WalkKit
import Derived.ProofKit
import Derived.OpenShut
import Derived.Carry
import Derived.Lib.SmallJoins
import Derived.Deep.Slices
namespace Go.Proofs.Ytjnmpejcegmkhab
open Go.RowKit

/-- Which of n things the raw number x speaks of. -/
def pickV (x : Int) (n : Nat) : Nat := ((if x < 0 then -(x + 1) else x) % (n : Int)).toNat
theorem pickV_lt (x : Int) (n : Nat) (hn : 1 ≤ n) : pickV x n < n := by
  unfold pickV
  have := Int.emod_lt_of_pos (if x < 0 then -(x + 1) else x) (show 0 < (n : Int) by omega)
  have := Int.emod_nonneg (if x < 0 then -(x + 1) else x) (show (n : Int) ≠ 0 by omega)
  omega

theorem pick_f (x : Int) (hx0 : -9223372036854775808 ≤ x) (n : Nat) (hn : 1 ≤ n) (hn9 : n ≤ 2000000000000) (w : World) : Calls Try.prog 18 #[I x, I n] w fun e w' => e = .returned (I (pickV x n)) ∧ w' = w := by
  have hne : ((n : Int) == 0) = false := by simp; omega
  by_cases hx : x < 0
  · have hv : 0 ≤ -(x + 1) := by omega
    have HR : Hid (-((x + 1).tmod n) = ((pickV x n : Nat) : Int)) := by
      show _ = _
      unfold pickV
      rw [if_pos hx, ← Int.neg_tmod, Int.tmod_eq_emod_of_nonneg hv]
      have := Int.emod_nonneg (-(x + 1)) (show (n : Int) ≠ 0 by omega)
      omega
    generalize pickV x n = pk at *
    go_enter Try.func18, Try.ntmps18
    go_wp2
    go_ret
    exact ⟨ret_i HR.out, rfl⟩
  · have hd : decide (x < 0) = false := by simp; omega
    have HR : Hid (x % n = ((pickV x n : Nat) : Int)) := by
      show _ = _
      unfold pickV
      rw [if_neg hx]
      have := Int.emod_nonneg x (show (n : Int) ≠ 0 by omega)
      omega
    generalize pickV x n = pk at *
    go_enter Try.func18, Try.ntmps18
    go_wp2
    go_ret
    exact ⟨ret_i HR.out, rfl⟩

/-- A list of raw numbers that lies below B. -/
structure PicksAt (w : World) (B : Nat) (v : Value) (n : Nat) (f : Nat → Int) : Prop where
  form : ∃ ao cap, v = .slice ao n cap ∧ n ≤ cap ∧ n ≤ maxLen ∧ ∀ i, i < n → -9223372036854775808 ≤ f i ∧ ∃ b off, ao = some ⟨b, off, none⟩ ∧ b < B ∧ b < w.heap.size ∧ w.cell? ⟨b, off + i, none⟩ = some (I (f i))

def natI (l : List Nat) : List Int := l.map (fun x : Nat => Int.ofNat x)

/-- Whom the first i turns of a round have met. -/
def MetBy (liv dn : List Nat) (f : Nat) (up : Bool) (i : Nat) : Prop :=
  ∀ t, t < i → t < liv.length → ∃ x, liv[if up then (f + t) % liv.length else (f + liv.length - t) % liv.length]? = some x ∧ x ∈ dn
theorem MetBy.all {liv dn : List Nat} {f : Nat} {up : Bool} (hf : f < liv.length) (h : MetBy liv dn f up liv.length) : ∀ x, x ∈ liv → x ∈ dn := by
  intro x hx
  obtain ⟨t, ht, rfl⟩ := List.getElem_of_mem hx
  cases up
  · obtain ⟨i, hi, e⟩ := turn_down liv.length f t hf ht
    obtain ⟨y, h1, h2⟩ := h i hi hi
    simp only [Bool.false_eq_true, if_false, e] at h1
    rw [List.getElem?_eq_getElem ht] at h1
    simp only [Option.some.injEq] at h1
    rw [h1]; exact h2
  · obtain ⟨i, hi, e⟩ := turn_up liv.length f t hf ht
    obtain ⟨y, h1, h2⟩ := h i hi hi
    simp only [if_true, e] at h1
    rw [List.getElem?_eq_getElem ht] at h1
    simp only [Option.some.injEq] at h1
    rw [h1]; exact h2
theorem MetBy.more {liv dn : List Nat} {f : Nat} {up : Bool} {i : Nat} (h : MetBy liv dn f up i) (x : Nat) (hx : i < liv.length → liv[if up then (f + i) % liv.length else (f + liv.length - i) % liv.length]? = some x) : MetBy liv (x :: dn) f up (i + 1) := by
  intro t ht htl
  by_cases e : t = i
  · subst e
    exact ⟨x, hx htl, by simp⟩
  · obtain ⟨y, h1, h2⟩ := h t (by omega) htl
    exact ⟨y, h1, by simp [h2]⟩
theorem MetBy.same {liv dn : List Nat} {f : Nat} {up : Bool} {i : Nat} (h : MetBy liv dn f up i) (hi : liv.length ≤ i) : MetBy liv dn f up (i + 1) := by
  intro t ht htl
  exact h t (by omega) htl

theorem KSt.confAt {w : World} {B hb : Nat} {c : Conf} {S : Gh} {P : PLay} (h : KSt w B hb c S P) : w.cell? ⟨hb, 1, none⟩ = some (I c.kind) ∧ w.cell? ⟨hb, 2, none⟩ = some (I c.depth) ∧ w.cell? ⟨hb, 3, none⟩ = some (I c.start) ∧ w.cell? ⟨hb, 4, none⟩ = some (I c.slots) ∧ w.cell? ⟨hb, 5, none⟩ = some (I c.width) ∧ w.cell? ⟨hb, 6, none⟩ = some (I c.spin) ∧ w.cell? ⟨hb, 7, none⟩ = some (I c.drain) ∧ w.cell? ⟨hb, 8, none⟩ = some (I c.procs) := by
  obtain ⟨ov, wv, a, b, _⟩ := h.rep.blk
  have e := h.rel.rel.cP
  have f := (nb_facts a).1
  rw [← e]
  exact ⟨by rw [f 1]; rfl, by rw [f 2]; rfl, by rw [f 3]; rfl, by rw [f 4]; rfl, by rw [f 5]; rfl, by rw [f 6]; rfl, by rw [f 7]; rfl, by rw [f 8]; rfl⟩

end Go.Proofs.Ytjnmpejcegmkhab

namespace Go.Proofs.Ytjnmpejcegmkhab
open Go.RowKit

set_option maxHeartbeats 16000000 in
set_option maxRecDepth 100000 in
theorem kpsettle_c {w : World} {B hb : Nat} {c : Conf} {S : Gh} {P : PLay} (h : KSt w B hb c S P) (pk : UOk c S.L) (pv : Value) (m : Nat) (pf : Nat → Int) (hpk : PicksAt w B pv m pf) :
    Calls Try.prog 11 #[.pointer (some ⟨hb, 0, none⟩), pv] w fun e w' => e = .returned (.bool true) ∧ (∃ S' P', KSt w' B hb c S' P' ∧ UOk c S'.L ∧ S'.L.procs.length = S.L.procs.length ∧ ∀ i, (hi : i < S'.L.procs.length) → arrived (toPP (S'.L.procs[i]).2)) ∧ Below B w w' := by
  obtain ⟨ap, cp, rfl, p1, p2, HP⟩ := hpk.form
  have HSR : Hid (∀ W, Below w.heap.size w W → PetR W B hb c S.L.procs.length (livTo S.L.procs S.L.procs.length) 0) := fun W hw => PetSt.start (h.below hw) pk
  have HAT : Hid (∀ W, Below w.heap.size w W → ∀ p, (hp : p < S.L.procs.length) → Calls Try.prog 16 #[.pointer (some ⟨hb, 0, none⟩), I p] W fun e w' => e = .returned (.agg #[I (S.L.procs[p]).2.phase, I (S.L.procs[p]).2.node, I (S.L.procs[p]).2.val]) ∧ Below W.heap.size W w') := fun W hw p hp => h.at hw p hp
  obtain ⟨ao9, cap9, c9, q1, q2, q3⟩ := h.opsAt
  have l0 := cell_lt c9
  have HBW : Hid (B ≤ w.heap.size) := h.hB
  have HMY : Hid (mayC c = true) := h.rel.rel.may
  have HPP : Hid _ := HP
  unfold maxLen at p2 q3
  clear h pk hpk HP
  generalize S.L.procs = ps at *
  obtain ⟨i0, hi, hz0, hz1, hz2⟩ := info_parts Try.info3
  go_enter Try.func11, Try.ntmps11
  go_wp2_with fail
  go_loopw [5, 6, 7] (fun xx pp _ wr => ∃ q : Nat, q ≤ ps.length ∧ pp = .int .i64 q ∧ wr.ownsRow w.heap.size 3 1 xx (livTo ps q).length ((natI (livTo ps q)).map I) ∧ Below w.heap.size w wr) (fun _ pp _ _ => ps.length - (intOf pp).toNat)
  case atStart => exact ⟨0, Nat.zero_le _, rfl, World.ownsRow_nil _ _ _ _, Below.refl _ _⟩
  case round =>
    obtain ⟨q, hq, rfl, hown, hbr⟩ := hrel
    have d9 := (hbr.cell (p := ⟨hb, 9, none⟩) l0).trans c9
    have ld := cell_lt d9
    by_cases hlt : q < ps.length
    · have ha := HAT.out _ hbr q hlt
      have HLV : Hid (livTo ps (q + 1) = livTo ps q ++ if (ps[q]).2.phase = 20 then [] else [q]) := by show _ = _; simp [livTo, hlt]
      have hll := livTo_len ps q
      generalize (ps[q]).2.phase = ph at *
      generalize (ps[q]).2.node = nd at *
      generalize (ps[q]).2.val = vl at *
      replace ha : Hid _ := ha
      have bq : decide ((q : Int) < (ps.length : Int)) = true := decide_eq_true (by omega)
      clear HPP
      go_wp2_with fail
      refine Calls.mono ha.out ?_
      rintro e w1 ⟨rfl, hb1⟩
      have hb2 : Below w.heap.size w w1 := hbr.trans (hb1.mono hbr.size)
      have hown1 := ownsRow_below hown hb1 (Nat.le_refl _)
      have hsz := hb2.size
      have hb3 : Below w.heap.size w (w1.alloc (.cells #[I ph, I nd, I vl] 48)) := hb2.alloc hsz _
      clear hb1 hown ha
      by_cases e20 : ph = 20
      · subst e20
        have HL2 : Hid (livTo ps (q + 1) = livTo ps q) := by show _ = _; rw [HLV.out]; simp
        clear HLV
        go_wp2_with fail
        go_roundw
        case rel => exact ⟨q + 1, by omega, by go_num, by rw [HL2.out]; exact hown1.alloc _, hb3⟩
        case measure => simp [intOf]; omega
      · have b20 : (ph != 20) = true := by rw [bne_iff_ne]; exact e20
        have HL2 : Hid (livTo ps (q + 1) = livTo ps q ++ [q]) := by show _ = _; rw [HLV.out, if_neg e20]
        clear HLV e20
        go_wp2_with (at_builtin; refine wpList_append_own _ rfl _ _ 25 rfl w.heap.size 3 i0 (.int .i64 0) 1 8 Try.underlying25 hi hz0 hz1 hz2 rfl (by decide) _ _ _ rfl ((hown1.alloc _).alloc _) ⟨w1.heap.size + 1, 0, none⟩ 1 1 [.int .i64 q] rfl rfl ?c1 ?c2 ?c3 ?c4 ?c5 ?_)
        case c1 => exact cells_new_at (w1.alloc (.cells #[I ph, I nd, I vl] 48)) [I q] 3 (w1.heap.size + 1) (by simp)
        case c2 => intro u hu; simp at hu; subst hu; rfl
        case c3 => unfold maxLen; omega
        case c4 => omega
        case c5 => simp; omega
        · intro x' w3 hown' hgrow _
          have hb4 : Below w.heap.size w w3 := (hb3.alloc (by simp; omega) _).grown hgrow (by simp; omega) (by
            intro j hj
            exact (hown1.lt j hj).1)
          clear hgrow hown1
          go_wp2_with fail
          go_roundw
          case rel => exact ⟨q + 1, by omega, by go_num, by rw [HL2.out]; simpa [natI] using hown', hb4⟩
          case measure => simp [intOf]; omega
    · have eq : q = ps.length := by omega
      subst eq
      have HS0 := HSR.out _ hbr
      have HLT : Hid (∀ x, x ∈ livTo ps ps.length → x < ps.length) := fun x hx => (livTo_lt ps ps.length x hx).2
      have hlv := livTo_len ps ps.length
      have bq : decide ((ps.length : Int) < (ps.length : Int)) = false := decide_eq_false (by omega)
      obtain ⟨al, cl, el, r1, r2, r3, HWt⟩ := row_cells hown
      subst el
      have HOW : Hid _ := hown
      have HS1 : Hid (PetR wr B hb c ps.length (livTo ps ps.length) 0) := HS0
      have HBR : Hid _ := hbr
      have HKC : Hid (∀ W, Calls Try.prog 30 #[.agg #[I c.kind, I c.depth, I c.start, I c.slots, I c.width, I c.spin, I c.drain, I c.procs]] W fun e w' => e = .returned (I (calmR c)) ∧ Below W.heap.size W w') := fun W => kcalm_c c HMY.out W
      have hR : 0 ≤ calmR c ∧ calmR c ≤ 1000 := by
        have hm := HMY.out
        have hc : 0 ≤ c.depth ∧ c.depth ≤ 4 ∧ 0 ≤ c.spin ∧ c.spin ≤ 8 ∧ 0 ≤ c.drain ∧ c.drain ≤ 16 ∧ 1 ≤ c.procs ∧ c.procs ≤ 16 := by simp [mayC] at hm; omega
        have b1 : (c.procs + 1) * (c.drain + 8) ≤ 17 * 24 := Int.mul_le_mul (by omega) (by omega) (by omega) (by omega)
        have b2 : 0 ≤ (c.procs + 1) * (c.drain + 8) := Int.mul_nonneg (by omega) (by omega)
        have b3 : (c.depth + 1) * (c.spin + 12) ≤ 5 * 20 := Int.mul_le_mul (by omega) (by omega) (by omega) (by omega)
        have b4 : 0 ≤ (c.depth + 1) * (c.spin + 12) := Int.mul_nonneg (by omega) (by omega)
        unfold calmR
        omega
      unfold maxLen at r2
      clear HSR HAT hown HS0 hbr HWt hi hz0 hz1 hz2 c9
      generalize livTo ps ps.length = liv at *
      have hnp : ps.length ≤ 256 := q2
      generalize hnn : ps.length = n at *
      have HNN : Hid (n = ps.length) := hnn.symm
      clear hnn
      generalize hRR : calmR c = R at *
      replace hRR : Hid _ := hRR
      go_wp2_with fail
      generalize wr = w1 at *
      go_loopw [8, 9, 10, 11, 12, 13, 14] (fun kk _ _ _ _ _ _ wk => ∃ k : Nat, (k : Int) ≤ R ∧ kk = .int .i64 k ∧ Hid (PetR wk B hb c n liv k) ∧ Hid (ChgT B KS w1 wk)) (fun kk _ _ _ _ _ _ _ => (R - intOf kk).toNat)
      case atStart => exact ⟨0, by omega, rfl, HS1.out, ChgT.refl _ _ _⟩
      case round =>
        obtain ⟨k, hk, rfl, hsr, hch⟩ := hrel
        obtain ⟨S1, P1, hk1, _⟩ := hsr.out
        obtain ⟨g1, g2, g3, g4, g5, g6, g7, g8⟩ := hk1.confAt
        have lg := cell_lt g1
        clear hk1
        go_wp2_with fail
        refine Calls.mono (HKC.out _) ?_
        rintro e w2 ⟨rfl, hb2⟩
        have hsr2 : Hid (PetR w2 B hb c n liv k) := PetR.below hsr.out hb2
        have hch2 : Hid (ChgT B KS w1 w2) := hch.out.trans (ChgT.of_below hb2)
        have HFIN : Hid (Below B w w2) := (HBR.out.mono HBW.out).trans (hch2.out.below (Nat.le_trans HBW.out HBR.out.size))
        clear g1 g2 g3 g4 g5 g6 g7 g8 lg hb2 hsr hch
        by_cases hkR : (k : Int) < R
        · have bk : decide ((k : Int) < R) = true := decide_eq_true hkR
          by_cases hl0 : liv.length = 0
          · have bl : decide ((0 : Int) < (liv.length : Int)) = false := decide_eq_false (by omega)
            have bl2 : decide (0 < liv.length) = false := decide_eq_false (by omega)
            have eliv : liv = [] := List.eq_nil_of_length_eq_zero hl0
            have HE : Hid _ := eliv
            clear eliv hl0
            go_wp2_with fail
            go_ret
            have hz := hsr2.out
            rw [HE.out] at hz
            obtain ⟨S9, P9, z1, z2, z3, z4⟩ := PetR.none hz
            exact ⟨rfl, ⟨S9, P9, z1, z2, z3.trans HNN.out, z4⟩, HFIN.out⟩
          · have bl : decide ((0 : Int) < (liv.length : Int)) = true := decide_eq_true (by omega)
            have bl2 : decide (0 < liv.length) = true := decide_eq_true (by omega)
            have bl3 : 0 < liv.length := by omega
            obtain ⟨l0, hl0n, h0, hst⟩ := PetR.round hsr2.out
            have H0 : Hid _ := h0
            have HST : Hid (PetSt w2 B hb c n liv l0 []) := hst
            have hpick : Hid (∀ x : Int, -9223372036854775808 ≤ x → ∀ W, Calls Try.prog 18 #[I x, I liv.length] W fun e w' => e = .returned (I (pickV x liv.length)) ∧ w' = W) := fun x hx W => pick_f x hx liv.length (by omega) (by omega) W
            have hp40 : Hid (∀ x : Int, -9223372036854775808 ≤ x → ∀ W, Calls Try.prog 18 #[I x, .int .i64 1099511627776] W fun e w' => e = .returned (I (pickV x 1099511627776)) ∧ w' = W) := fun x hx W => pick_f x hx 1099511627776 (by omega) (by omega) W
            have hp5 : Hid (∀ x : Int, -9223372036854775808 ≤ x → ∀ W, Calls Try.prog 18 #[I x, .int .i64 5] W fun e w' => e = .returned (I (pickV x 5)) ∧ w' = W) := fun x hx W => pick_f x hx 5 (by omega) (by omega) W
            clear hst h0 hsr2
            go_upto_if 50 with fail
            go_cut [9] (fun s9 wx => ∃ xv : Int, s9 = I xv ∧ -9223372036854775808 ≤ xv ∧ wx = w2)
            case first =>
              by_cases hm0 : m = 0
              · have bm : decide ((0 : Int) < (m : Int)) = false := decide_eq_false (by omega)
                go_wp2_with fail
                go_meet
                exact ⟨0, rfl, by omega, rfl⟩
              · have bm : decide ((0 : Int) < (m : Int)) = true := decide_eq_true (by omega)
                have hkm : k % m < m := Nat.mod_lt _ (by omega)
                obtain ⟨fx, b, off, rfl, lb, lw, cb⟩ := HPP.out (k % m) hkm
                have cb2 : w2.cell? ⟨b, off + k % m, none⟩ = some (I (pf (k % m))) := (HFIN.out.cell (p := ⟨b, off + k % m, none⟩) lb).trans cb
                generalize pf (k % m) = xv at *
                have bm0 : ((m : Int) == 0) = false := by rw [beq_eq_false_iff_ne]; omega
                have hm1 : 0 ≤ (k : Int) % (m : Int) := Int.emod_nonneg _ (by omega)
                have hm2 : (k : Int) % (m : Int) < (m : Int) := Int.emod_lt_of_pos _ (by omega)
                have bm2 : decide (0 < m) = true := decide_eq_true (by omega)
                go_wp2_with fail
                go_meet
                exact ⟨xv, rfl, fx, rfl⟩
            case rest =>
              obtain ⟨xv, rfl, hxv, rfl⟩ := hcut
              have hpi := hpick.out xv hxv
              have hpL := pickV_lt xv liv.length (by omega)
              have hp4 := hp40.out xv hxv
              have hp55 := hp5.out xv hxv
              generalize pickV xv liv.length = f at *
              generalize pickV xv 1099511627776 = r40 at *
              generalize pickV xv 5 = r5 at *
              replace hpi : Hid _ := hpi
              replace hp4 : Hid _ := hp4
              replace hp55 : Hid _ := hp55
              clear hpick hp40 hp5 HPP HKC HS1
              go_wp2_with fail
              refine Calls.mono (hpi.out _) ?_
              rintro e w3 ⟨rfl, rfl⟩
              go_wp2_with fail
              go_loopw [11, 12, 13, 14] (fun ii _ _ _ wq => ∃ i : Nat, i ≤ liv.length + 1 ∧ ii = .int .i64 i ∧ ∃ dn, Hid (PetSt wq B hb c n liv l0 dn) ∧ Hid (MetBy liv dn f (decide (r40 % 3 ≠ 1)) i) ∧ Hid (ChgT B KS w1 wq)) (fun ii _ _ _ _ => liv.length + 1 - (intOf ii).toNat)
              case atStart => exact ⟨0, Nat.zero_le _, rfl, [], HST.out, fun t ht => absurd ht (Nat.not_lt_zero _), hch2.out⟩
              case round =>
                obtain ⟨i, hi, rfl, dn, hst, hmet, hch⟩ := hrel
                by_cases hil : i ≤ liv.length
                · have bi : decide ((i : Int) ≤ (liv.length : Int)) = true := decide_eq_true (by omega)
                  have hcm := ((hch.out.row HOW.out (by decide)))
                  obtain ⟨al', cl', el', _, _, _, HC⟩ := row_cells hcm
                  simp only [Value.slice.injEq, true_and] at el'
                  obtain ⟨rfl, rfl⟩ := el'
                  have hup : (f + i) % liv.length < liv.length := Nat.mod_lt _ (by omega)
                  have hdn : (f + liv.length - i) % liv.length < liv.length := Nat.mod_lt _ (by omega)
                  have rd : ∀ t, (ht : t < liv.length) → ∃ g, al = some ⟨g, 0, none⟩ ∧ wr.cell? ⟨g, t, none⟩ = some (I ((liv[t] : Nat) : Int)) ∧ liv[t] < n := by
                    intro t ht
                    obtain ⟨g, e, _, cg⟩ := HC t (by simpa [natI] using ht)
                    refine ⟨g, e, ?_, HLT.out _ (List.getElem_mem _)⟩
                    rw [cg]
                    simp [natI]
                  obtain ⟨g, rfl, cu, nu⟩ := rd _ hup
                  obtain ⟨g', eg, cd, nd⟩ := rd _ hdn
                  simp only [Option.some.injEq, Addr.mk.injEq, and_true] at eg
                  subst eg
                  have lgu := cell_lt cu
                  have HU : Hid (liv[(f + i) % liv.length]? = some liv[(f + i) % liv.length]) := List.getElem?_eq_getElem hup
                  have HD : Hid (liv[(f + liv.length - i) % liv.length]? = some liv[(f + liv.length - i) % liv.length]) := List.getElem?_eq_getElem hdn
                  generalize liv[(f + i) % liv.length] = xu at *
                  generalize liv[(f + liv.length - i) % liv.length] = xd at *
                  clear rd HC hcm
                  have m1 : 0 ≤ ((f : Int) + (i : Int)) % (liv.length : Int) := Int.emod_nonneg _ (by omega)
                  have m2 : ((f : Int) + (i : Int)) % (liv.length : Int) < (liv.length : Int) := Int.emod_lt_of_pos _ (by omega)
                  have bl0 : ((liv.length : Int) == 0) = false := by rw [beq_eq_false_iff_ne]; omega
                  go_wp2_with fail
                  refine Calls.mono (hp4.out _) ?_
                  rintro e w5 ⟨rfl, rfl⟩
                  have m3 : 0 ≤ ((f : Int) + (liv.length : Int) - (i : Int)) % (liv.length : Int) := Int.emod_nonneg _ (by omega)
                  have m4 : ((f : Int) + (liv.length : Int) - (i : Int)) % (liv.length : Int) < (liv.length : Int) := Int.emod_lt_of_pos _ (by omega)
                  go_upto_if 80 with fail
                  go_cut [12] (fun s12 wx => ∃ x : Nat, s12 = I x ∧ x < n ∧ Hid (liv[if decide (r40 % 3 ≠ 1) then (f + i) % liv.length else (f + liv.length - i) % liv.length]? = some x) ∧ wx = w5)
                  case first =>
                    by_cases e3 : r40 % 3 = 1
                    · have b3 : ((r40 : Int) % 3 == 1) = true := by rw [beq_iff_eq]; omega
                      go_wp2_with fail
                      go_meet
                      exact ⟨xd, rfl, nd, by show _ = _; simp [e3]; exact HD.out, rfl⟩
                    · have b3 : ((r40 : Int) % 3 == 1) = false := by rw [beq_eq_false_iff_ne]; omega
                      go_wp2_with fail
                      go_meet
                      exact ⟨xu, rfl, nu, by show _ = _; simp [e3]; exact HU.out, rfl⟩
                  case rest =>
                    clear cu nu HU cd nd HD m1 m2 m3 m4 lgu hp4 hup hdn
                    obtain ⟨x, rfl, hxn, hxl, rfl⟩ := hcut
                    obtain ⟨ph, nd, vl, hat, hsk, hstp⟩ := PetSt.at hst.out x hxn
                    have hat0 := hat _ (Below.refl _ _)
                    replace hat0 : Hid _ := hat0
                    replace hsk : Hid _ := hsk
                    replace hstp : Hid _ := hstp
                    clear hat
                    go_wp2_with fail
                    refine Calls.mono hat0.out ?_
                    rintro e w6 ⟨rfl, hb6⟩
                    have hb7 : Below wc.heap.size wc (w6.alloc (.cells #[I ph, I nd, I vl] 48)) := hb6.alloc hb6.size _
                    clear hat0 hb6
                    by_cases e20 : ph = 20
                    · have hs9 : Hid (PetSt (w6.alloc (.cells #[I ph, I nd, I vl] 48)) B hb c n liv l0 (x :: dn)) := PetSt.below (hsk.out e20) hb7
                      have hc9 : Hid (ChgT B KS w1 (w6.alloc (.cells #[I ph, I nd, I vl] 48))) := hch.out.trans (ChgT.of_below hb7)
                      subst e20
                      go_wp2_with fail
                      go_roundw
                      case rel => exact ⟨i + 1, by omega, by go_num, x :: dn, hs9.out, MetBy.more hmet.out x (fun _ => hxl.out), hc9.out⟩
                      case measure => simp [intOf]; omega
                    · have b20 : (ph == 20) = false := by rw [beq_eq_false_iff_ne]; exact e20
                      have hs9 : Hid (PetSt (w6.alloc (.cells #[I ph, I nd, I vl] 48)) B hb c n liv l0 dn) := PetSt.below hst.out hb7
                      have hc9 : Hid (ChgT B KS w1 (w6.alloc (.cells #[I ph, I nd, I vl] 48))) := hch.out.trans (ChgT.of_below hb7)
                      have hcl : Hid (∀ draw : Int, Calls Try.prog 25 #[.pointer (some ⟨hb, 0, none⟩), I x, I draw] (w6.alloc (.cells #[I ph, I nd, I vl] 48)) fun e w' => e = .returned (.bool true) ∧ PetSt w' B hb c n liv l0 (x :: dn) ∧ ChgT B KS (w6.alloc (.cells #[I ph, I nd, I vl] 48)) w') := fun draw => hstp.out e20 _ hb7 draw
                      clear hsk hstp e20
                      by_cases ei : i = liv.length
                      · have be : ((i : Int) == (liv.length : Int)) = true := by rw [beq_iff_eq]; omega
                        have HEI : Hid (i = liv.length) := ei
                        clear ei
                        go_wp2_with fail
                        refine Calls.mono (hp55.out _) ?_
                        rintro e w7 ⟨rfl, rfl⟩
                        by_cases e5 : r5 = 2
                        · have b5 : ((r5 : Int) != 2) = false := by rw [bne_eq_false_iff_eq]; omega
                          go_wp2_with fail
                          refine Calls.mono (hcl.out _) ?_
                          rintro e w8 ⟨rfl, hs8, hc8⟩
                          have HS8 : Hid (PetSt w8 B hb c n liv l0 (x :: dn)) := hs8
                          have HC8 : Hid (ChgT B KS w1 w8) := hc9.out.trans hc8
                          clear hcl hs8 hc8 hs9 hc9
                          go_wp2_with fail
                          go_roundw
                          case rel => exact ⟨i + 1, by omega, by go_num, x :: dn, HS8.out, MetBy.more hmet.out x (fun _ => hxl.out), HC8.out⟩
                          case measure => simp [intOf]; omega
                        · have b5 : ((r5 : Int) != 2) = true := by rw [bne_iff_ne]; omega
                          have HMS : Hid (MetBy liv dn f (decide (r40 % 3 ≠ 1)) (i + 1)) := MetBy.same hmet.out (by have := HEI.out; omega)
                          go_wp2_with fail
                          go_roundw
                          case rel => exact ⟨i + 1, by omega, by go_num, dn, hs9.out, HMS.out, hc9.out⟩
                          case measure => simp [intOf]; omega
                      · have be : ((i : Int) == (liv.length : Int)) = false := by rw [beq_eq_false_iff_ne]; omega
                        go_wp2_with fail
                        refine Calls.mono (hcl.out _) ?_
                        rintro e w8 ⟨rfl, hs8, hc8⟩
                        have HS8 : Hid (PetSt w8 B hb c n liv l0 (x :: dn)) := hs8
                        have HC8 : Hid (ChgT B KS w1 w8) := hc9.out.trans hc8
                        clear hcl hs8 hc8 hs9 hc9
                        go_wp2_with fail
                        go_roundw
                        case rel => exact ⟨i + 1, by omega, by go_num, x :: dn, HS8.out, MetBy.more hmet.out x (fun _ => hxl.out), HC8.out⟩
                        case measure => simp [intOf]; omega
                · have bi : decide ((i : Int) ≤ (liv.length : Int)) = false := decide_eq_false (by omega)
                  have hdone : Hid (PetR wr B hb c n liv (k + 1)) := PetSt.done hst.out H0.out (MetBy.all hpL (fun t ht htl => hmet.out t (by omega) htl))
                  clear hst hmet
                  go_wp2_with fail
                  go_roundw
                  case rel => exact ⟨k + 1, by push_cast; omega, by go_num, hdone.out, hch.out⟩
                  case measure => simp [intOf]; omega
        · have bk : decide ((k : Int) < R) = false := decide_eq_false hkR
          go_wp2_with fail
          go_ret
          obtain ⟨S9, P9, z1, z2, z3, z4⟩ := PetR.all hsr2.out (by rw [hRR.out]; omega)
          exact ⟨rfl, ⟨S9, P9, z1, z2, z3.trans HNN.out, z4⟩, HFIN.out⟩

end Go.Proofs.Ytjnmpejcegmkhab

namespace Go.Proofs.Ytjnmpejcegmkhab
open Go.RowKit

set_option maxHeartbeats 2000000 in
theorem kended_c {w : World} {B hb : Nat} {c : Conf} {S : Gh} {P : PLay} (h : KSt w B hb c S P) {W : World} (hw : Below w.heap.size w W) (p : Nat) (hp : p < S.L.procs.length) :
    Calls Try.prog 50 #[.pointer (some ⟨hb, 0, none⟩), I p] W fun e w' => e = .returned (.bool (decide ((S.L.procs[p]).2.phase = 19 ∨ (S.L.procs[p]).2.phase = 20))) ∧ Below W.heap.size W w' := by
  have ha := h.at hw p hp
  generalize (S.L.procs[p]).2.phase = ph at *
  generalize (S.L.procs[p]).2.node = nd at *
  generalize (S.L.procs[p]).2.val = vl at *
  replace ha : Hid _ := ha
  clear h hw hp
  go_enter Try.func50, Try.ntmps50
  go_wp2_with fail
  refine Calls.mono ha.out ?_
  rintro e w1 ⟨rfl, hb1⟩
  have hb2 : Below W.heap.size W (w1.alloc (.cells #[I ph, I nd, I vl] 48)) := hb1.alloc hb1.size _
  clear ha
  by_cases e1 : ph = 19
  · subst e1
    go_wp2_with fail
    go_ret
    exact ⟨by simp, hb2⟩
  · have b1 : (ph == 19) = false := by rw [beq_eq_false_iff_ne]; exact e1
    by_cases e2 : ph = 20
    · subst e2
      go_wp2_with fail
      go_ret
      exact ⟨by simp, hb2⟩
    · have b2 : (ph == 20) = false := by rw [beq_eq_false_iff_ne]; exact e2
      go_wp2_with fail
      go_ret
      exact ⟨by simp [e1, e2], hb2⟩

end Go.Proofs.Ytjnmpejcegmkhab

namespace Go.Proofs.Ytjnmpejcegmkhab
open Go.RowKit

section
variable {c : Conf} {L : Lay} {P : PLay}

/-- Nobody is between the root's door and a leaf. -/
def Still (L : Lay) : Prop := ∀ i, (hi : i < L.procs.length) → arrived (toPP (L.procs[i]).2) ∨ ((L.procs[i]).2.node = 1 ∧ ((L.procs[i]).2.phase = 0 ∨ (L.procs[i]).2.phase = 15))

end

end Go.Proofs.Ytjnmpejcegmkhab

namespace Go.Proofs.Ytjnmpejcegmkhab
open Go.RowKit

theorem KSt.wentAt {w : World} {B hb : Nat} {c : Conf} {S : Gh} {P : PLay} (h : KSt w B hb c S P) : ∃ ao cap, w.cell? ⟨hb, 10, none⟩ = some (.slice ao S.L.procs.length cap) ∧ S.L.procs.length ≤ cap ∧ cap ≤ maxLen ∧ ∀ p, (hp : p < S.went.length) → ∃ g, ao = some ⟨g, 0, none⟩ ∧ g < w.heap.size ∧ w.cell? ⟨g, p, none⟩ = some (.bool S.went[p]) := by
  obtain ⟨ov, wv, a, _, b⟩ := h.rep.blk
  obtain ⟨ao, cap, e1, q1, q2, q3, hc⟩ := ownsRow_cells b
  have hl := h.of.wlen
  refine ⟨ao, cap, ?_, by omega, q3, fun p hp => ?_⟩
  · rw [(nb_facts a).1 10, ← hl, ← e1]
    rfl
  · obtain ⟨g, e, _, cg⟩ := hc p (.bool S.went[p]) (by simp [hp])
    exact ⟨g, e, cell_lt cg, cg⟩
def StillW (S : Gh) : Prop := ∀ p, (hp : p < S.L.procs.length) → (hp' : p < S.went.length) → S.went[p] = true → arrived (toPP (S.L.procs[p]).2)

theorem StillW.still {w : World} {B hb : Nat} {c : Conf} {S : Gh} {P : PLay} (h : KSt w B hb c S P) (hs : StillW S) : Still S.L := by
  intro i hi
  have hi' : i < S.went.length := by have := h.of.wlen; omega
  cases hw : S.went[i]
  · obtain ⟨a, b, _⟩ := h.of.new i hi hi' hw
    right
    refine ⟨b, ?_⟩
    rw [a]
    unfold newPr
    simp only
    split
    · exact Or.inr rfl
    · exact Or.inl rfl
  · exact Or.inl (hs i hi hi' hw)

end Go.Proofs.Ytjnmpejcegmkhab

namespace Go.Proofs.Ytjnmpejcegmkhab
open Go.RowKit

def liesL (l : List ND) : List Int := l.flatMap fun d => d.items
theorem lies_to {c : Conf} {L : Lay} {P : PLay} (h : CRel c L P) (x : Int) : ∀ k, k ≤ L.past.length → ((liesL (rnodesTo L k)).count x : Int) = sumN (fun w => cntH x (L.hist w)) k
  | 0, _ => by simp [liesL, rnodesTo, sumN]
  | k + 1, hk => by
    have ih := lies_to h x k (by omega)
    rw [rnodesTo_succ]
    unfold liesL at ih ⊢
    rw [List.flatMap_append, List.count_append]
    simp only [sumN]
    push_cast
    rw [ih]
    congr 1
    by_cases e : k = 0 ∨ formH (L.hist k) = 3
    · have f3 : formH (L.hist k) = 3 := by
        rcases e with e | e
        · subst e; exact h.rel.hist0
        · exact e
      rw [if_pos e]
      simp [cntH, f3]
    · rw [if_neg e]
      have hf := (h.rel.nodes k (by omega) (by omega)).form
      have hf2 : formH (L.hist k) = 1 ∨ formH (L.hist k) = 2 := by omega
      rcases hf2 with f | f
      · simp [cntH, f, rnode]
      · simp [cntH, f, rnode]
theorem lies_cnt {c : Conf} {L : Lay} {P : PLay} (h : CRel c L P) (x : Int) : ((liesL (rnodes L)).count x : Int) = cntS x L := lies_to h x _ (Nat.le_refl _)

/-- How many of the first k. -/
def cntTo (f : Pr → Bool) (ps : Prs) : Nat → Nat
  | 0 => 0
  | k + 1 => cntTo f ps k + (if h : k < ps.length then (if f (ps[k]).2 = true then 1 else 0) else 0)
theorem cntTo_le (f : Pr → Bool) (ps : Prs) : ∀ k, cntTo f ps k ≤ k
  | 0 => Nat.le_refl _
  | k + 1 => by
    have := cntTo_le f ps k
    simp only [cntTo]
    split
    · split <;> omega
    · omega
theorem cntTo_sum (f : Pr → Bool) (ps : Prs) : ∀ k, k ≤ ps.length → ((cntTo f ps k : Nat) : Int) = sumP (fun p => if f p = true then 1 else 0) (ps.take k)
  | 0, _ => by simp [cntTo, sumP]
  | k + 1, h => by
    have hlt : k < ps.length := by omega
    have ih := cntTo_sum f ps k (by omega)
    have e : ps.take (k + 1) = ps.take k ++ [ps[k]] := by rw [List.take_add_one, List.getElem?_eq_getElem hlt]; rfl
    rw [e, sumP_one, ← ih]
    simp only [cntTo, dif_pos hlt]
    split <;> simp
theorem cntTo_all (f : Pr → Bool) (ps : Prs) : ((cntTo f ps ps.length : Nat) : Int) = sumP (fun p => if f p = true then 1 else 0) ps := by
  have := cntTo_sum f ps ps.length (Nat.le_refl _)
  rwa [List.take_length] at this

def begF (x : Int) (p : Pr) : Bool := decide (p.kind = 1 ∧ p.oval = x)
def putF (x : Int) (p : Pr) : Bool := decide (p.kind = 1 ∧ p.oval = x ∧ (p.phase = 19 ∨ p.phase = 20))
def gotF (x : Int) (p : Pr) : Bool := decide (p.kind = 2 ∧ (p.phase = 19 ∨ p.phase = 20) ∧ p.val = x)

theorem sumP_sub (f g : Pr → Int) : ∀ ps : Ps, sumP (fun p => f p - g p) ps = sumP f ps - sumP g ps
  | [] => rfl
  | y :: r => by simp only [sumP]; rw [sumP_sub f g r]; omega
theorem sumP_leq (f g : Pr → Int) : ∀ ps : Ps, (∀ i, (hi : i < ps.length) → f (ps[i]).2 ≤ g (ps[i]).2) → sumP f ps ≤ sumP g ps
  | [], _ => Int.le_refl _
  | y :: r, h => by
    have h0 := h 0 (by simp)
    simp only [List.getElem_cons_zero] at h0
    have ih := sumP_leq f g r fun i hi => by
      have := h (i + 1) (by simpa using hi)
      simpa using this
    simp only [sumP]
    omega

/-- No more Gets have a value than Puts of it were begun. -/
theorem got_le {c : Conf} {L : Lay} {P : PLay} (h : CRel c L P) (o : VOk L) (x : Int) : cntTo (gotF x) L.procs L.procs.length ≤ cntTo (begF x) L.procs L.procs.length := by
  have h1 := o.val x
  rw [← lies_cnt h x] at h1
  have h2 := sumP_leq (vP x L.procs) (fun p => (if begF x p = true then 1 else 0) - (if gotF x p = true then 1 else 0)) L.procs fun i hi => by
    have hph := (h.rel.qs i hi).phase
    generalize (L.procs[i]).2 = p at *
    unfold vP begF gotF
    simp only [decide_eq_true_eq]
    by_cases k1 : p.kind = 1
    · rw [if_pos k1, if_neg (show ¬ (p.kind = 2 ∧ _) from fun z => by omega)]
      by_cases e : p.oval = x
      · rw [if_pos (show p.kind = 1 ∧ p.oval = x from ⟨k1, e⟩)]
        split <;> omega
      · rw [if_neg (show ¬ (p.oval = x ∧ _) from fun z => e z.1), if_neg (show ¬ (p.kind = 1 ∧ p.oval = x) from fun z => e z.2)]
        omega
    · rw [if_neg k1, if_neg (show ¬ (p.kind = 1 ∧ p.oval = x) from fun z => k1 z.1)]
      by_cases k2 : p.kind = 2
      · rw [if_pos k2]
        by_cases e : (p.phase = 19 ∨ p.phase = 20) ∧ p.val = x
        · rw [if_pos (Or.inl ⟨by omega, e.2⟩), if_pos ⟨k2, e⟩]
          omega
        · rw [if_neg (show ¬ (p.kind = 2 ∧ _) from fun z => e z.2)]
          split <;> omega
      · rw [if_neg k2, if_neg (show ¬ (p.kind = 2 ∧ _) from fun z => k2 z.1)]
        omega
  rw [sumP_sub, ← cntTo_all, ← cntTo_all, ← h1] at h2
  omega

/-- In a still tree just as many lie there as Puts have ended less Gets that have it. -/
theorem lies_still {c : Conf} {L : Lay} {P : PLay} (h : CRel c L P) (o : VOk L) (hs : ∀ i, (hi : i < L.procs.length) → ¬ ((L.procs[i]).2.phase = 6 ∨ (L.procs[i]).2.phase = 7)) (x : Int) : ((liesL (rnodes L)).count x : Int) = (cntTo (putF x) L.procs L.procs.length : Int) - (cntTo (gotF x) L.procs L.procs.length : Int) := by
  have h1 := o.val x
  rw [← lies_cnt h x] at h1
  rw [h1, cntTo_all, cntTo_all, ← sumP_sub]
  refine sumP_congr _ _ _ fun i hi => ?_
  have hph := (h.rel.qs i hi).phase
  have hm := metB_no (hs i hi)
  generalize (L.procs[i]).2 = p at *
  unfold vP putF gotF
  rw [hm]
  simp only [decide_eq_true_eq]
  by_cases k1 : p.kind = 1
  · rw [if_pos k1, if_neg (show ¬ (p.kind = 2 ∧ _) from fun z => by omega)]
    by_cases e : p.oval = x ∧ (p.phase = 19 ∨ p.phase = 20)
    · rw [if_pos ⟨e.1, Or.inl (by omega)⟩, if_pos ⟨k1, e⟩]
      rfl
    · rw [if_neg (show ¬ (p.kind = 1 ∧ _) from fun z => e z.2), if_neg (fun z => e ⟨z.1, by rcases z.2 with a | a; omega; exact absurd a.1 (by decide)⟩)]
      rfl
  · rw [if_neg k1, if_neg (show ¬ (p.kind = 1 ∧ _) from fun z => k1 z.1)]
    by_cases k2 : p.kind = 2
    · rw [if_pos k2]
      by_cases e : (p.phase = 19 ∨ p.phase = 20) ∧ p.val = x
      · rw [if_pos (Or.inl ⟨by omega, e.2⟩), if_pos ⟨k2, e⟩]
        rfl
      · rw [if_neg (show ¬ (p.kind = 2 ∧ _) from fun z => e z.2), if_neg (fun z => by rcases z with a | a; exact e ⟨by omega, a.2⟩; exact absurd a.1 (by decide))]
        rfl
    · rw [if_neg k2, if_neg (show ¬ (p.kind = 2 ∧ _) from fun z => k2 z.1)]
      rfl

end Go.Proofs.Ytjnmpejcegmkhab

namespace Go.Proofs.Ytjnmpejcegmkhab
open Go.RowKit

theorem KSt.opsAt3 {w : World} {B hb : Nat} {c : Conf} {S : Gh} {P : PLay} (h : KSt w B hb c S P) : ∃ ao cap, w.cell? ⟨hb, 9, none⟩ = some (.slice ao S.L.procs.length cap) ∧ S.L.procs.length ≤ cap ∧ S.L.procs.length ≤ 256 ∧ cap ≤ maxLen ∧ ∀ p, (hp : p < S.L.procs.length) → ∃ g, ao = some ⟨g, 0, none⟩ ∧ g < w.heap.size ∧ w.cell? ⟨g, p * 3, none⟩ = some (I (S.L.procs[p]).2.kind) ∧ w.cell? ⟨g, p * 3 + 1, none⟩ = some (I (S.L.procs[p]).2.oval) := by
  obtain ⟨ov, wv, a, b, _⟩ := h.rep.blk
  obtain ⟨ao, cap, e1, q1, q2, q3, hc⟩ := ownsRow_cells b
  have hl : S.ops.length = S.L.procs.length := h.rep.len.trans h.rel.plen
  refine ⟨ao, cap, ?_, by omega, h.rel.rel.np, q3, fun p hp => ?_⟩
  · rw [(nb_facts a).1 9, ← hl, ← e1]
    rfl
  · have hpo : p < S.ops.length := by omega
    have ek : (S.ops[p]).kind = (S.L.procs[p]).2.kind ∧ (S.ops[p]).val = (S.L.procs[p]).2.oval := by
      have e := h.of.op
      have : S.ops[p]? = (opsL S.L)[p]? := by rw [e]
      rw [List.getElem?_eq_getElem hpo] at this
      simp [opsL, toPPs, hp, ppOp, toPP] at this
      rw [this]
      exact ⟨rfl, rfl⟩
    obtain ⟨g, e, _, cg⟩ := hc (p * 3 + 0) (I (S.L.procs[p]).2.kind) (by
      show (S.ops.flatMap opCells)[p * 3 + 0]? = _
      rw [flat_at opCells 3 (fun _ => rfl) S.ops p hpo 0 (by omega), ← ek.1]
      rfl)
    obtain ⟨g', e', _, cg'⟩ := hc (p * 3 + 1) (I (S.L.procs[p]).2.oval) (by
      show (S.ops.flatMap opCells)[p * 3 + 1]? = _
      rw [flat_at opCells 3 (fun _ => rfl) S.ops p hpo 1 (by omega), ← ek.2]
      rfl)
    rw [e] at e'
    simp only [Option.some.injEq, Addr.mk.injEq, and_true] at e'
    subst e'
    exact ⟨g, e, cell_lt cg, cg, cg'⟩

set_option maxHeartbeats 8000000 in
set_option maxRecDepth 100000 in
theorem kvalue_c {w : World} {B hb : Nat} {c : Conf} {S : Gh} {P : PLay} (h : KSt w B hb c S P) (o : VOk S.L) (st : Bool) (hst : st = true → ∀ i, (hi : i < S.L.procs.length) → ¬ ((S.L.procs[i]).2.phase = 6 ∨ (S.L.procs[i]).2.phase = 7)) (x : Int) {base : Nat} {lv : Value} {n : Nat} (hn : n ≤ 1000000) (hl : w.ownsRow base 3 1 lv n ((liesL (rnodes S.L)).map I)) :
    Calls Try.prog 29 #[.pointer (some ⟨hb, 0, none⟩), I x, lv, .bool st] w fun e w' => e = .returned (.bool true) ∧ Below w.heap.size w w' := by
  have HAT : Hid (∀ W, Below w.heap.size w W → ∀ p, (hp : p < S.L.procs.length) → Calls Try.prog 16 #[.pointer (some ⟨hb, 0, none⟩), I p] W fun e w' => e = .returned (.agg #[I (S.L.procs[p]).2.phase, I (S.L.procs[p]).2.node, I (S.L.procs[p]).2.val]) ∧ Below W.heap.size W w') := fun W hw p hp => h.at hw p hp
  have HEN : Hid (∀ W, Below w.heap.size w W → ∀ p, (hp : p < S.L.procs.length) → Calls Try.prog 50 #[.pointer (some ⟨hb, 0, none⟩), I p] W fun e w' => e = .returned (.bool (decide ((S.L.procs[p]).2.phase = 19 ∨ (S.L.procs[p]).2.phase = 20))) ∧ Below W.heap.size W w') := fun W hw p hp => kended_c h hw p hp
  have hgl := got_le h.rel o x
  have HLS : Hid (st = true → ((liesL (rnodes S.L)).count x : Int) = (cntTo (putF x) S.L.procs S.L.procs.length : Int) - (cntTo (gotF x) S.L.procs S.L.procs.length : Int)) := fun e => lies_still h.rel o (hst e) x
  obtain ⟨ao9, cap9, c9, q1, q2, q3, HC9⟩ := h.opsAt3
  have l0 := cell_lt c9
  have HOP : Hid _ := HC9
  obtain ⟨al, cl, rfl, r1, r2, r3, HC⟩ := row_cells hl
  have HLC : Hid _ := HC
  have HGL : Hid _ := hgl
  unfold maxLen at q3 r2
  clear h o hst HC9 HC hl hgl
  generalize S.L.procs = ps at *
  generalize liesL (rnodes S.L) = ls at *
  go_enter Try.func29, Try.ntmps29
  go_wp2_with fail
  go_loopw [9, 10, 11, 12, 13, 14] (fun bb uu gg pp _ _ wr => ∃ q : Nat, q ≤ ps.length ∧ pp = .int .i64 q ∧ bb = .int .i64 (cntTo (begF x) ps q : Nat) ∧ uu = .int .i64 (cntTo (putF x) ps q : Nat) ∧ gg = .int .i64 (cntTo (gotF x) ps q : Nat) ∧ Below w.heap.size w wr) (fun _ _ _ pp _ _ _ => ps.length - (intOf pp).toNat)
  case atStart => exact ⟨0, Nat.zero_le _, rfl, rfl, rfl, rfl, Below.refl _ _⟩
  case round =>
    obtain ⟨q, hq, rfl, rfl, rfl, rfl, hbr⟩ := hrel
    have k1 := cntTo_le (begF x) ps q
    have k2 := cntTo_le (putF x) ps q
    have k3 := cntTo_le (gotF x) ps q
    have d9 := (hbr.cell (p := ⟨hb, 9, none⟩) l0).trans c9
    have ld := cell_lt d9
    by_cases hlt : q < ps.length
    · have hen := HEN.out _ hbr q hlt
      have HA2 : Hid (∀ W, Below w.heap.size w W → Calls Try.prog 16 #[.pointer (some ⟨hb, 0, none⟩), I q] W fun e w' => e = .returned (.agg #[I (ps[q]).2.phase, I (ps[q]).2.node, I (ps[q]).2.val]) ∧ Below W.heap.size W w') := fun W hw => HAT.out W hw q hlt
      obtain ⟨g, rfl, lg, cg, cv⟩ := HOP.out q hlt
      have bq : decide ((q : Int) < (ps.length : Int)) = true := decide_eq_true (by omega)
      have HB1 : Hid (cntTo (begF x) ps (q + 1) = cntTo (begF x) ps q + if (ps[q]).2.kind = 1 ∧ (ps[q]).2.oval = x then 1 else 0) := by show _ = _; simp [cntTo, hlt, begF]
      have HB2 : Hid (cntTo (putF x) ps (q + 1) = cntTo (putF x) ps q + if (ps[q]).2.kind = 1 ∧ (ps[q]).2.oval = x ∧ ((ps[q]).2.phase = 19 ∨ (ps[q]).2.phase = 20) then 1 else 0) := by show _ = _; simp [cntTo, hlt, putF]
      have HB3 : Hid (cntTo (gotF x) ps (q + 1) = cntTo (gotF x) ps q + if (ps[q]).2.kind = 2 ∧ ((ps[q]).2.phase = 19 ∨ (ps[q]).2.phase = 20) ∧ (ps[q]).2.val = x then 1 else 0) := by show _ = _; simp [cntTo, hlt, gotF]
      generalize hq1 : cntTo (begF x) ps (q + 1) = b1 at *
      generalize hq2 : cntTo (putF x) ps (q + 1) = u1 at *
      generalize hq3 : cntTo (gotF x) ps (q + 1) = g1 at *
      have HQ1 : Hid _ := hq1
      have HQ2 : Hid _ := hq2
      have HQ3 : Hid _ := hq3
      clear hq1 hq2 hq3
      generalize cntTo (begF x) ps q = b0 at *
      generalize cntTo (putF x) ps q = u0 at *
      generalize cntTo (gotF x) ps q = g0 at *
      clear HAT HEN HOP HLC HLS HGL
      generalize (ps[q]).2.kind = kd at *
      generalize (ps[q]).2.oval = ov at *
      generalize (ps[q]).2.phase = ph at *
      generalize (ps[q]).2.node = nd at *
      generalize (ps[q]).2.val = vl at *
      generalize hod : decide (ph = 19 ∨ ph = 20) = od at *
      have HOD : Hid (ph = 19 ∨ ph = 20 ↔ od = true) := by show _ ↔ _; rw [← hod]; simp
      replace hen : Hid _ := hen
      clear hod
      go_wp2_with fail
      refine Calls.mono hen.out ?_
      rintro e w2 ⟨rfl, hb2⟩
      have hb3 : Below w.heap.size w w2 := hbr.trans (hb2.mono hbr.size)
      clear hen hb2 d9 ld hbr
      go_wp2_with fail
      refine Calls.mono (HA2.out _ hb3) ?_
      rintro e w3 ⟨rfl, hb4⟩
      have hb5 : Below w.heap.size w w3 := hb3.trans (hb4.mono hb3.size)
      have hb6 : Below w.heap.size w (w3.alloc (.cells #[I ph, I nd, I vl] 48)) := hb5.alloc hb5.size _
      have e9 := (hb6.cell (p := ⟨hb, 9, none⟩) l0).trans c9
      have cg2 := (hb6.cell (p := ⟨g, q * 3, none⟩) lg).trans cg
      have cv2 := (hb6.cell (p := ⟨g, q * 3 + 1, none⟩) lg).trans cv
      have le := cell_lt e9
      have lg2 := cell_lt cg2
      clear HA2 hb3 hb4 hb5 cg cv
      by_cases a1 : kd = 1
      · subst a1
        have e3 : g1 = g0 := by rw [HB3.out, if_neg (fun z => by omega)]; rfl
        by_cases a2 : ov = x
        · subst a2
          have e1 : b1 = b0 + 1 := by rw [HB1.out, if_pos ⟨rfl, rfl⟩]
          have bx : (ov == ov) = true := by simp
          cases od
          · have e2 : u1 = u0 := by rw [HB2.out, if_neg (fun z => by have := HOD.out.1 z.2.2; cases this)]; rfl
            clear HB1 HB2 HB3 HOD
            subst e1 e2 e3
            go_wp2_with fail
            go_roundw
            case rel => exact ⟨q + 1, by omega, by go_num, by rw [HQ1.out]; go_num, by rw [HQ2.out], by rw [HQ3.out], hb6⟩
            case measure => simp [intOf]; omega
          · have e2 : u1 = u0 + 1 := by rw [HB2.out, if_pos ⟨rfl, rfl, HOD.out.2 rfl⟩]
            clear HB1 HB2 HB3 HOD
            subst e1 e2 e3
            go_wp2_with fail
            go_roundw
            case rel => exact ⟨q + 1, by omega, by go_num, by rw [HQ1.out]; go_num, by rw [HQ2.out]; go_num, by rw [HQ3.out], hb6⟩
            case measure => simp [intOf]; omega
        · have bx : (ov == x) = false := by rw [beq_eq_false_iff_ne]; exact a2
          have e1 : b1 = b0 := by rw [HB1.out, if_neg (fun z => a2 z.2)]; rfl
          have e2 : u1 = u0 := by rw [HB2.out, if_neg (fun z => a2 z.2.1)]; rfl
          clear HB1 HB2 HB3 HOD a2
          subst e1 e2 e3
          go_wp2_with fail
          go_roundw
          case rel => exact ⟨q + 1, by omega, by go_num, by rw [HQ1.out], by rw [HQ2.out], by rw [HQ3.out], hb6⟩
          case measure => simp [intOf]; omega
      · have bk : (kd == 1) = false := by rw [beq_eq_false_iff_ne]; exact a1
        have e1 : b1 = b0 := by rw [HB1.out, if_neg (fun z => a1 z.1)]; rfl
        have e2 : u1 = u0 := by rw [HB2.out, if_neg (fun z => a1 z.1)]; rfl
        clear HB1 HB2
        by_cases a2 : kd = 2
        · subst a2
          cases od
          · have e3 : g1 = g0 := by rw [HB3.out, if_neg (fun z => by have := HOD.out.1 z.2.1; cases this)]; rfl
            clear HB3 HOD a1
            subst e1 e2 e3
            go_wp2_with fail
            go_roundw
            case rel => exact ⟨q + 1, by omega, by go_num, by rw [HQ1.out], by rw [HQ2.out], by rw [HQ3.out], hb6⟩
            case measure => simp [intOf]; omega
          · by_cases a3 : vl = x
            · have e3 : g1 = g0 + 1 := by rw [HB3.out, if_pos ⟨rfl, HOD.out.2 rfl, a3⟩]
              have bv : (vl == x) = true := by rw [beq_iff_eq]; exact a3
              clear HB3 HOD a1 a3
              subst e1 e2 e3
              go_wp2_with fail
              go_roundw
              case rel => exact ⟨q + 1, by omega, by go_num, by rw [HQ1.out], by rw [HQ2.out], by rw [HQ3.out]; go_num, hb6⟩
              case measure => simp [intOf]; omega
            · have e3 : g1 = g0 := by rw [HB3.out, if_neg (fun z => a3 z.2.2)]; rfl
              have bv : (vl == x) = false := by rw [beq_eq_false_iff_ne]; exact a3
              clear HB3 HOD a1 a3
              subst e1 e2 e3
              go_wp2_with fail
              go_roundw
              case rel => exact ⟨q + 1, by omega, by go_num, by rw [HQ1.out], by rw [HQ2.out], by rw [HQ3.out], hb6⟩
              case measure => simp [intOf]; omega
        · have bk2 : (kd == 2) = false := by rw [beq_eq_false_iff_ne]; exact a2
          have e3 : g1 = g0 := by rw [HB3.out, if_neg (fun z => a2 z.1)]; rfl
          clear HB3 HOD a1 a2
          subst e1 e2 e3
          go_wp2_with fail
          go_roundw
          case rel => exact ⟨q + 1, by omega, by go_num, by rw [HQ1.out], by rw [HQ2.out], by rw [HQ3.out], hb6⟩
          case measure => simp [intOf]; omega
    · have eq : q = ps.length := by omega
      subst eq
      have bq : decide ((ps.length : Int) < (ps.length : Int)) = false := decide_eq_false (by omega)
      have hgl : cntTo (gotF x) ps ps.length ≤ cntTo (begF x) ps ps.length := HGL.out
      generalize cntTo (begF x) ps ps.length = b0 at *
      generalize cntTo (putF x) ps ps.length = u0 at *
      generalize cntTo (gotF x) ps ps.length = g0 at *
      have bgl : decide ((g0 : Int) ≤ (b0 : Int)) = true := decide_eq_true (by omega)
      clear HAT HEN HOP HGL
      go_wp2_with fail
      generalize wr = w1 at *
      go_loopw [15, 16] (fun tt ii wx => ∃ k : Nat, k ≤ n ∧ ii = .int .i64 k ∧ tt = .int .i64 ((ls.take k).count x : Nat) ∧ w1 = wx) (fun _ ii _ => n - (intOf ii).toNat)
      case atStart => exact ⟨0, Nat.zero_le _, rfl, rfl, rfl⟩
      case round =>
        obtain ⟨k, hk, rfl, rfl, rfl⟩ := hrel
        have hcl : (ls.take k).count x ≤ k := Nat.le_trans List.count_le_length (by rw [List.length_take]; omega)
        by_cases hkn : k < n
        · obtain ⟨g, rfl, lg, cg⟩ := HLC.out k (by omega)
          have cg2 := (hbr.cell (p := ⟨g, k, none⟩) lg).trans cg
          have lg2 := cell_lt cg2
          have hkl : k < ls.length := by omega
          have HT : Hid ((ls.take (k + 1)).count x = (ls.take k).count x + if ls[k] = x then 1 else 0) := by
            show _ = _
            rw [List.take_add_one, List.getElem?_eq_getElem hkl, List.count_append]
            simp [List.count_singleton]
          generalize ls[k] = y at *
          have bk : decide ((k : Int) < (n : Int)) = true := decide_eq_true (by omega)
          clear HLC HLS cg
          generalize hq1 : (ls.take (k + 1)).count x = t1 at *
          have HQ1 : Hid _ := hq1
          clear hq1
          generalize (ls.take k).count x = t0 at *
          by_cases e : y = x
          · have be : (y == x) = true := by rw [beq_iff_eq]; exact e
            have e1 : t1 = t0 + 1 := by rw [HT.out, if_pos e]
            clear HT e
            subst e1
            go_wp2_with fail
            go_roundw
            case rel => exact ⟨k + 1, by omega, by go_num, by rw [HQ1.out]; go_num, trivial⟩
            case measure => simp [intOf]; omega
          · have be : (y == x) = false := by rw [beq_eq_false_iff_ne]; exact e
            have e1 : t1 = t0 := by rw [HT.out, if_neg e]; rfl
            clear HT e
            subst e1
            go_wp2_with fail
            go_roundw
            case rel => exact ⟨k + 1, by omega, by go_num, by rw [HQ1.out], trivial⟩
            case measure => simp [intOf]; omega
        · have ek : k = n := by omega
          subst ek
          have bk : decide ((k : Int) < (k : Int)) = false := decide_eq_false (by omega)
          have hls := HLS.out
          have ht : ls.take k = ls := by rw [← r3]; exact List.take_length
          rw [ht] at hcl ⊢
          generalize ls.count x = t0 at *
          clear HLS HLC ht
          cases st
          · clear hls
            go_wp2_with fail
            go_ret
            exact ⟨rfl, hbr⟩
          · have h2 := hls rfl
            have bs : ((t0 : Int) == (u0 : Int) - (g0 : Int)) = true := by rw [beq_iff_eq]; exact h2
            clear hls
            go_wp2_with fail
            go_ret
            exact ⟨rfl, hbr⟩

end Go.Proofs.Ytjnmpejcegmkhab

namespace Go.Proofs.Ytjnmpejcegmkhab
open Go.RowKit

theorem lies_len (l : List ND) (h : ∀ d ∈ l, d.items.length ≤ 10000) : (liesL l).length ≤ l.length * 10000 := by
  induction l with
  | nil => simp [liesL]
  | cons d r ih =>
    have h0 := h d (by simp)
    have := ih fun y hy => h y (by simp [hy])
    unfold liesL at this ⊢
    simp only [List.flatMap_cons, List.length_append, List.length_cons]
    omega
theorem rnodes_items {c : Conf} {L : Lay} {P : PLay} (h : CRel c L P) : ∀ d ∈ rnodes L, d.items.length ≤ 10000 := by
  intro d hd
  obtain ⟨v, hv, hi, rfl⟩ := (rnodes_mem L _ d).1 hd
  have hv0 : v ≠ 0 := hi.1
  have hf3 : formH (L.hist v) ≠ 3 := hi.2
  have hN := h.rel.lenle
  have hn := h.rel.nodes v (by omega) hv
  have hf := hn.form
  have hf2 : formH (L.hist v) = 1 ∨ formH (L.hist v) = 2 := by omega
  rcases hf2 with f | f
  · simp [rnode, f]
  · have hit := ((hn.leaf f).2.2.2).vals h.rel.confs.1
    have hz := h.rel.isz v (by omega) (by omega)
    have hp := pvals_le (P.nodes.getD v zeroPN).items
    simp only [rnode, f]
    rw [if_neg (by decide)]
    simp only [hit]
    omega
theorem lies_snoc (l : List ND) (k : Nat) (hk : k < l.length) : liesL (l.take (k + 1)) = liesL (l.take k) ++ (l[k]).items := by
  unfold liesL
  rw [List.take_add_one, List.getElem?_eq_getElem hk, List.flatMap_append]
  simp

set_option maxHeartbeats 8000000 in
set_option maxRecDepth 100000 in
theorem kvalues_c {w : World} {B hb : Nat} {c : Conf} {S : Gh} {P : PLay} (h : KSt w B hb c S P) (o : VOk S.L) (st : Bool) (hst : st = true → ∀ i, (hi : i < S.L.procs.length) → ¬ ((S.L.procs[i]).2.phase = 6 ∨ (S.L.procs[i]).2.phase = 7)) :
    Calls Try.prog 10 #[.pointer (some ⟨hb, 0, none⟩), .bool st] w fun e w' => e = .returned (.bool true) ∧ Below w.heap.size w w' := by
  have HVC : Hid (∀ W, Below w.heap.size w W → ∀ (x : Int) (base : Nat) (lv : Value) (n : Nat), n ≤ 1000000 → W.ownsRow base 3 1 lv n ((liesL (rnodes S.L)).map I) → Calls Try.prog 29 #[.pointer (some ⟨hb, 0, none⟩), I x, lv, .bool st] W fun e w' => e = .returned (.bool true) ∧ Below W.heap.size W w') := fun W hw x base lv n hn hl => kvalue_c (h.below hw) o st hst x hn hl
  have HAT : Hid (∀ W, Below w.heap.size w W → ∀ p, (hp : p < S.L.procs.length) → Calls Try.prog 16 #[.pointer (some ⟨hb, 0, none⟩), I p] W fun e w' => e = .returned (.agg #[I (S.L.procs[p]).2.phase, I (S.L.procs[p]).2.node, I (S.L.procs[p]).2.val]) ∧ Below W.heap.size W w') := fun W hw p hp => h.at hw p hp
  obtain ⟨ao9, cap9, c9, q1, q2, q3, HC9⟩ := h.opsAt3
  have c0 := h.rep.t
  have l0 := cell_lt c9
  have hnd := h.nodes (Below.refl _ _)
  have hlr := h.rel.shaped.len
  have HLE : Hid (∀ k, (liesL ((rnodes S.L).take k)).length ≤ 640000) := by
    intro k
    have h1 := lies_len ((rnodes S.L).take k) fun d hd => rnodes_items h.rel d (List.mem_of_mem_take hd)
    have h2 : ((rnodes S.L).take k).length ≤ 64 := by rw [List.length_take]; omega
    omega
  have HOP : Hid _ := HC9
  replace hnd : Hid _ := hnd
  unfold maxLen at q3
  clear h o hst HC9
  generalize S.L.procs = ps at *
  obtain ⟨i0, hi, hz0, hz1, hz2⟩ := info_parts Try.info3
  go_enter Try.func10, Try.ntmps10
  go_wp2_with fail
  refine Calls.mono hnd.out ?_
  rintro e w2 ⟨xn, l, rfl, hr, el, hb2⟩
  obtain ⟨aa, ca, ex, a1, a2, a3, _⟩ := ownsRow_cells hr.row
  subst ex
  have hll : l.length ≤ 64 := by have := congrArg List.length el; simp at this; omega
  have HEL : Hid (∀ k, (hk : k < l.length) → liesL ((rnodes S.L).take (k + 1)) = liesL ((rnodes S.L).take k) ++ (l[k]).1.items) := by
    intro k hk
    have hl : l.length = (rnodes S.L).length := by rw [← el]; simp
    have hk' : k < (rnodes S.L).length := by omega
    rw [lies_snoc _ k hk']
    congr 2
    have := congrArg (fun z => z[k]?) el
    simp [hk] at this
    rw [List.getElem?_eq_getElem hk'] at this
    exact (Option.some.inj this).symm
  have HALL : Hid (liesL ((rnodes S.L).take l.length) = liesL (rnodes S.L)) := by
    show _ = _
    have hl : l.length = (rnodes S.L).length := by rw [← el]; simp
    rw [hl, List.take_length]
  have HR : Hid (NodesRep w2 w.heap.size (.slice aa l.length ca) l) := hr
  unfold maxLen at a2 a3
  clear hnd hr el hlr
  generalize rnodes S.L = rn at *
  go_wp2_with fail
  go_loopw [5, 7] (fun xx ii wr => ∃ k : Nat, k ≤ l.length ∧ ii = .int .i64 k ∧ wr.ownsRow w2.heap.size 3 1 xx (liesL (rn.take k)).length ((liesL (rn.take k)).map I) ∧ Below w2.heap.size w2 wr) (fun _ ii _ => l.length - (intOf ii).toNat)
  case atStart => exact ⟨0, Nat.zero_le _, rfl, by simpa [liesL] using World.ownsRow_nil _ _ _ _, Below.refl _ _⟩
  case round =>
    obtain ⟨k, hk, rfl, hown, hbr⟩ := hrel
    by_cases hlt : k < l.length
    · obtain ⟨g, e1, l1, f⟩ := nodes_at (HR.out.below hbr (Nat.le_refl _)) k hlt
      have e3 := e1 _ _ _ rfl
      subst e3
      clear e1
      have hit := (HR.out.below hbr (Nat.le_refl _)).items l[k] (List.getElem_mem _)
      have HS := HEL.out k hlt
      have hle := HLE.out (k + 1)
      rw [HS] at hle
      have bk : decide ((k : Int) < (l.length : Int)) = true := decide_eq_true (by omega)
      have c11 : wr.cell? ⟨g, k * 12 + 11, none⟩ = some (l[k]).2.2 := by rw [f 11 (by omega)]; rfl
      have lg := cell_lt c11
      clear f HEL HLE HALL HVC HAT HOP
      generalize l[k] = y at *
      obtain ⟨d, wv, iv⟩ := y
      simp only at *
      have HSS : Hid _ := HS
      clear HS
      have hc := ownsRow_cells hit
      rcases hit.2 with ⟨e0, en⟩ | ⟨gi, cp, cur, hv, _⟩
      · have en2 : d.items = [] := List.eq_nil_of_length_eq_zero en
        subst e0
        clear hc hit
        go_wp2_with (at_builtin; refine wpList_append_own_none rfl _ _ 25 rfl w2.heap.size 3 i0 1 Try.underlying25 hi _ _ _ rfl hown rfl ?_)
        go_wp2_with fail
        go_roundw
        case rel => exact ⟨k + 1, by omega, by go_num, by rw [HSS.out, en2, List.append_nil]; exact hown, hbr⟩
        case measure => simp [intOf]; omega
      · subst hv
        obtain ⟨_, _, _, _, _, _, HCI⟩ := hc
        clear hit
        go_wp2_with (at_builtin; refine wpList_append_own _ rfl _ _ 25 rfl w2.heap.size 3 i0 (.int .i64 0) 1 8 Try.underlying25 hi hz0 hz1 hz2 rfl (by decide) _ _ _ rfl hown ⟨gi, 0, none⟩ d.items.length cp (d.items.map I) rfl ?c0 ?c1 ?c2 ?c3 ?c4 ?c5 ?_)
        case c0 => simp
        case c1 =>
          intro j u hj
          obtain ⟨g', e', _, cj⟩ := HCI j u hj
          simp only [Option.some.injEq, Addr.mk.injEq, and_true] at e'
          subst e'
          by_cases j0 : j = 0
          · subst j0
            exact cj
          · simpa [Addr.add, j0] using cj
        case c2 =>
          intro u hu
          simp only [List.mem_map] at hu
          obtain ⟨a, _, rfl⟩ := hu
          rfl
        case c3 => unfold maxLen; simp only [List.length_append] at hle; omega
        case c4 => simp only [List.length_append] at hle; omega
        case c5 => exact hbr.size
        · intro x' w3 hown' hgrow _
          have hb4 : Below w2.heap.size w2 w3 := hbr.grown hgrow hbr.size (fun j hj => (hown.lt j hj).1)
          have HO3 : Hid _ := hown'
          clear hgrow hown hown' HCI
          go_wp2_with fail
          go_roundw
          case rel => exact ⟨k + 1, by omega, by go_num, by rw [HSS.out, List.length_append, List.map_append]; exact HO3.out, hb4⟩
          case measure => simp [intOf]; omega
    · have ek : k = l.length := by omega
      subst ek
      have bk : decide ((l.length : Int) < (l.length : Int)) = false := decide_eq_false (by omega)
      have hle := HLE.out l.length
      rw [HALL.out] at hown hle
      generalize liesL rn = ls at *
      have hb3 : Below w.heap.size w wr := hb2.trans (hbr.mono hb2.size)
      obtain ⟨al, cl, rfl, r1, r2, r3, HC⟩ := row_cells hown
      have HLC : Hid _ := HC
      have HOW : Hid (wr.ownsRow w2.heap.size 3 1 (.slice al ls.length cl) ls.length (ls.map I)) := hown
      unfold maxLen at r2
      clear HEL HLE HALL HR hown HC hi hz0 hz1 hz2 hb2 hbr
      go_wp2_with fail
      generalize wr = w3 at *
      go_loopw [8, 9, 10, 11] (fun qq _ _ _ wx => ∃ q : Nat, q ≤ ps.length + ls.length ∧ qq = .int .i64 q ∧ Below w3.heap.size w3 wx) (fun qq _ _ _ _ => ps.length + ls.length - (intOf qq).toNat)
      case atStart => exact ⟨0, Nat.zero_le _, rfl, Below.refl _ _⟩
      case round =>
        obtain ⟨q, hq, rfl, hbr⟩ := hrel
        have hbz : Below w.heap.size w wr := hb3.trans (hbr.mono hb3.size)
        have d9 := (hbz.cell (p := ⟨hb, 9, none⟩) l0).trans c9
        have ld := cell_lt d9
        by_cases hq2 : q < ps.length + ls.length
        · have bq : decide ((q : Int) < (ps.length : Int) + (ls.length : Int)) = true := decide_eq_true (by omega)
          by_cases hqp : q < ps.length
          · have bqp : decide ((q : Int) < (ps.length : Int)) = true := decide_eq_true (by omega)
            have hat := HAT.out _ hbz q hqp
            obtain ⟨g, rfl, lg, cg, cv⟩ := HOP.out q hqp
            clear HAT HOP HLC
            generalize (ps[q]).2.kind = kd at *
            generalize (ps[q]).2.oval = ov at *
            generalize (ps[q]).2.phase = ph at *
            generalize (ps[q]).2.node = nd at *
            generalize (ps[q]).2.val = vl at *
            replace hat : Hid _ := hat
            go_wp2_with fail
            refine Calls.mono hat.out ?_
            rintro e w4 ⟨rfl, hb4⟩
            have hb5 : Below w3.heap.size w3 (w4.alloc (.cells #[I ph, I nd, I vl] 48)) := (hbr.trans (hb4.mono hbr.size)).alloc (Nat.le_trans hbr.size hb4.size) _
            have hb6 : Below w.heap.size w (w4.alloc (.cells #[I ph, I nd, I vl] 48)) := hb3.trans (hb5.mono hb3.size)
            have HO5 : Hid _ := ownsRow_below HOW.out hb5 (Nat.le_refl _)
            have e9 := (hb6.cell (p := ⟨hb, 9, none⟩) l0).trans c9
            have cg2 := (hb6.cell (p := ⟨g, q * 3, none⟩) lg).trans cg
            have cv2 := (hb6.cell (p := ⟨g, q * 3 + 1, none⟩) lg).trans cv
            have le := cell_lt e9
            have lg2 := cell_lt cg2
            have HV6 : Hid (∀ x : Int, Calls Try.prog 29 #[.pointer (some ⟨hb, 0, none⟩), I x, .slice al ls.length cl, .bool st] (w4.alloc (.cells #[I ph, I nd, I vl] 48)) fun e w' => e = .returned (.bool true) ∧ Below (w4.alloc (.cells #[I ph, I nd, I vl] 48)).heap.size (w4.alloc (.cells #[I ph, I nd, I vl] 48)) w') := fun x => HVC.out _ hb6 x _ _ _ (by omega) HO5.out
            have HB5 : Hid _ := hb5
            clear hat hb4 hb5 HO5 cg cv d9 ld hbz
            by_cases k1 : kd = 1
            · subst k1
              go_wp2_with fail
              refine Calls.mono (HV6.out _) ?_
              rintro e w5 ⟨rfl, hb7⟩
              have hb8 : Below w3.heap.size w3 w5 := HB5.out.trans (hb7.mono HB5.out.size)
              clear HV6 hb7
              go_wp2_with fail
              go_roundw
              case rel => exact ⟨q + 1, by omega, by go_num, hb8⟩
              case measure => simp [intOf]; omega
            · have bk1 : (kd == 1) = false := by rw [beq_eq_false_iff_ne]; exact k1
              go_wp2_with fail
              refine Calls.mono (HV6.out _) ?_
              rintro e w5 ⟨rfl, hb7⟩
              have hb8 : Below w3.heap.size w3 w5 := HB5.out.trans (hb7.mono HB5.out.size)
              clear HV6 hb7
              go_wp2_with fail
              go_roundw
              case rel => exact ⟨q + 1, by omega, by go_num, hb8⟩
              case measure => simp [intOf]; omega
          · have bqp : decide ((q : Int) < (ps.length : Int)) = false := decide_eq_false (by omega)
            obtain ⟨g, rfl, lg, cg⟩ := HLC.out (q - ps.length) (by omega)
            have cg2 := (hbr.cell (p := ⟨g, q - ps.length, none⟩) lg).trans cg
            have lg2 := cell_lt cg2
            have i1 : 0 ≤ (q : Int) - (ps.length : Int) := by omega
            have i2 : (q : Int) - (ps.length : Int) < (ls.length : Int) := by omega
            have i3 : ((q : Int) - (ps.length : Int)).toNat = q - ps.length := by omega
            have HO5 : Hid _ := ownsRow_below HOW.out hbr (Nat.le_refl _)
            generalize ls[q - ps.length] = vl at *
            have HV6 : Hid (Calls Try.prog 29 #[.pointer (some ⟨hb, 0, none⟩), I vl, .slice (some ⟨g, 0, none⟩) ls.length cl, .bool st] wr fun e w' => e = .returned (.bool true) ∧ Below wr.heap.size wr w') := HVC.out _ hbz vl _ _ _ (by omega) HO5.out
            clear HAT HOP HLC HOW HO5 cg
            go_wp2_with fail
            refine Calls.mono HV6.out ?_
            rintro e w5 ⟨rfl, hb7⟩
            have hb8 : Below w3.heap.size w3 w5 := hbr.trans (hb7.mono hbr.size)
            clear HV6 hb7
            go_wp2_with fail
            go_roundw
            case rel => exact ⟨q + 1, by omega, by go_num, hb8⟩
            case measure => simp [intOf]; omega
        · have bq : decide ((q : Int) < (ps.length : Int) + (ls.length : Int)) = false := decide_eq_false (by omega)
          go_wp2_with fail
          go_ret
          exact ⟨rfl, hbz⟩

end Go.Proofs.Ytjnmpejcegmkhab

namespace Go.Proofs.Ytjnmpejcegmkhab
open Go.RowKit

set_option maxHeartbeats 8000000 in
set_option maxRecDepth 100000 in
theorem kstill_c {w : World} {B hb : Nat} {c : Conf} {S : Gh} {P : PLay} (h : KSt w B hb c S P) :
    Calls Try.prog 9 #[.pointer (some ⟨hb, 0, none⟩)] w fun e w' => (∃ b, e = .returned (.bool b) ∧ (b = true ↔ StillW S)) ∧ Below w.heap.size w w' := by
  have HAT : Hid (∀ W, Below w.heap.size w W → ∀ p, (hp : p < S.L.procs.length) → Calls Try.prog 16 #[.pointer (some ⟨hb, 0, none⟩), I p] W fun e w' => e = .returned (.agg #[I (S.L.procs[p]).2.phase, I (S.L.procs[p]).2.node, I (S.L.procs[p]).2.val]) ∧ Below W.heap.size W w') := fun W hw p hp => h.at hw p hp
  obtain ⟨ao9, cap9, c9, q1, q2, q3⟩ := h.opsAt
  obtain ⟨aw, cw, c10, w1, w2, HW⟩ := h.wentAt
  have hwl := h.of.wlen
  have l0 := cell_lt c9
  have HWW : Hid _ := HW
  unfold maxLen at q3 w2
  clear h HW
  go_enter Try.func9, Try.ntmps9
  go_wp2_with fail
  go_loopw [3, 4] (fun pp _ wr => ∃ q : Nat, q ≤ S.L.procs.length ∧ pp = .int .i64 q ∧ Hid (∀ p, (hp : p < S.L.procs.length) → (hp' : p < S.went.length) → p < q → S.went[p] = true → arrived (toPP (S.L.procs[p]).2)) ∧ Below w.heap.size w wr) (fun pp _ _ => S.L.procs.length - (intOf pp).toNat)
  case atStart => exact ⟨0, Nat.zero_le _, rfl, fun p _ _ x => absurd x (Nat.not_lt_zero _), Below.refl _ _⟩
  case round =>
    obtain ⟨q, hq, rfl, hin, hbr⟩ := hrel
    have d9 := (hbr.cell (p := ⟨hb, 9, none⟩) l0).trans c9
    have ld := cell_lt d9
    by_cases hlt : q < S.L.procs.length
    · have ha := HAT.out _ hbr q hlt
      have hqw : q < S.went.length := by omega
      obtain ⟨g, rfl, lg, cg⟩ := HWW.out q hqw
      have HMORE : Hid ((S.went[q] = true → arrived (toPP (S.L.procs[q]).2)) → ∀ p, (hp : p < S.L.procs.length) → (hp' : p < S.went.length) → p < q + 1 → S.went[p] = true → arrived (toPP (S.L.procs[p]).2)) := by
        intro hx p hp hp' hpq hwt
        by_cases e : p = q
        · subst e; exact hx hwt
        · exact hin.out p hp hp' (by omega) hwt
      have HNO : Hid (S.went[q] = true → ¬ arrived (toPP (S.L.procs[q]).2) → ¬ StillW S) := fun a b hs => b (hs q hlt hqw a)
      have HARR : Hid (arrived (toPP (S.L.procs[q]).2) ↔ ((S.L.procs[q]).2.phase = 13 ∨ (S.L.procs[q]).2.phase = 14 ∨ (S.L.procs[q]).2.phase = 19 ∨ (S.L.procs[q]).2.phase = 20)) := Iff.rfl
      generalize S.went[q] = wq at *
      generalize arrived (toPP (S.L.procs[q]).2) = arr at *
      generalize (S.L.procs[q]).2.phase = ph at *
      generalize (S.L.procs[q]).2.node = nd at *
      generalize (S.L.procs[q]).2.val = vl at *
      replace ha : Hid _ := ha
      have bq : decide ((q : Int) < (S.L.procs.length : Int)) = true := decide_eq_true (by omega)
      go_wp2_with fail
      refine Calls.mono ha.out ?_
      rintro e w3 ⟨rfl, hb3⟩
      have hb4 : Below w.heap.size w w3 := hbr.trans (hb3.mono hbr.size)
      have hb5 : Below w.heap.size w (w3.alloc (.cells #[I ph, I nd, I vl] 48)) := hb4.alloc hb4.size _
      have e10 := (hb5.cell (p := ⟨hb, 10, none⟩) l0).trans c10
      have cg5 := (hb5.cell (p := ⟨g, q, none⟩) lg).trans cg
      have l5 := cell_lt e10
      have lg5 := cell_lt cg5
      clear ha hb3 hb4 cg
      cases wq
      · go_wp2_with fail
        go_roundw
        case rel => exact ⟨q + 1, by omega, by go_num, HMORE.out (fun x => by cases x), hb5⟩
        case measure => simp [intOf]; omega
      · by_cases a1 : ph = 13
        · subst a1
          go_wp2_with fail
          go_roundw
          case rel => exact ⟨q + 1, by omega, by go_num, HMORE.out (fun _ => HARR.out.2 (by simp)), hb5⟩
          case measure => simp [intOf]; omega
        · have b1 : (ph != 13) = true := by rw [bne_iff_ne]; exact a1
          by_cases a2 : ph = 14
          · subst a2
            go_wp2_with fail
            go_roundw
            case rel => exact ⟨q + 1, by omega, by go_num, HMORE.out (fun _ => HARR.out.2 (by simp)), hb5⟩
            case measure => simp [intOf]; omega
          · have b2 : (ph != 14) = true := by rw [bne_iff_ne]; exact a2
            by_cases a3 : ph = 19
            · subst a3
              go_wp2_with fail
              go_roundw
              case rel => exact ⟨q + 1, by omega, by go_num, HMORE.out (fun _ => HARR.out.2 (by simp)), hb5⟩
              case measure => simp [intOf]; omega
            · have b3 : (ph != 19) = true := by rw [bne_iff_ne]; exact a3
              by_cases a4 : ph = 20
              · subst a4
                go_wp2_with fail
                go_roundw
                case rel => exact ⟨q + 1, by omega, by go_num, HMORE.out (fun _ => HARR.out.2 (by simp)), hb5⟩
                case measure => simp [intOf]; omega
              · have b4 : (ph != 20) = true := by rw [bne_iff_ne]; exact a4
                have HN : Hid (¬ StillW S) := HNO.out rfl (fun x => by rcases HARR.out.1 x with y | y | y | y; exact a1 y; exact a2 y; exact a3 y; exact a4 y)
                clear HMORE HNO HARR hin a1 a2 a3 a4
                go_wp2_with fail
                go_ret
                exact ⟨⟨false, rfl, ⟨fun x => (by cases x), fun x => absurd x HN.out⟩⟩, hb5⟩
    · have bq : decide ((q : Int) < (S.L.procs.length : Int)) = false := decide_eq_false (by omega)
      have HY : Hid (StillW S) := fun p hp hp' x => hin.out p hp hp' (by omega) x
      clear hin HAT HWW
      go_wp2_with fail
      go_ret
      exact ⟨⟨true, rfl, ⟨fun _ => HY.out, fun _ => rfl⟩⟩, hbr⟩

end Go.Proofs.Ytjnmpejcegmkhab

namespace Go.Proofs.Ytjnmpejcegmkhab
open Go.RowKit

theorem PRep.base2 {w : World} {B B' : Nat} {L : PLay} (h : PRep w B L) (hb : B' ≤ B) : PRep w B' L :=
  ⟨h.tree, Nat.le_trans hb h.treeB, h.len, ownsRow_mono h.prow hb, fun v hv => ownsRow_mono (h.items v hv) hb, h.ind⟩

set_option maxHeartbeats 4000000 in
theorem kbegin_no (c : Conf) (w : World) (h : mayC c = false) : Calls Try.prog 7 #[confV c] w fun e w' => e = .returned (.tuple #[.pointer none, .bool true]) ∧ Below w.heap.size w w' := by
  have h1 := fun W => pnew_no c W h
  have h2 := fun W => good_c c W
  rw [h] at h2
  unfold confV at h1 h2 ⊢
  clear h
  replace h1 : Hid _ := h1
  replace h2 : Hid _ := h2
  go_enter Try.func7, Try.ntmps7
  go_wp2_with fail
  refine Calls.mono (h1.out _) ?_
  rintro e w1 ⟨rfl, hb1⟩
  have nb1 : w1.heap[w.heap.size]? = some (.cells #[I c.kind, I c.depth, I c.start, I c.slots, I c.width, I c.spin, I c.drain, I c.procs] 23 (0, 0)) := (hb1.block _ (by simp)).trans (nb_alloc _ _ _)
  have hb2 : Below w.heap.size w w1 := ((Below.refl _ _).alloc (Nat.le_refl _) _).trans (hb1.mono (by simp))
  obtain ⟨f1, _⟩ := nb_facts nb1
  clear hb1 h1
  go_wp2_with fail
  refine Calls.mono (h2.out _) ?_
  rintro e w2 ⟨rfl, hb3⟩
  go_wp2
  go_ret2
  exact ⟨rfl, hb2.trans (hb3.mono hb2.size)⟩

set_option maxHeartbeats 4000000 in
theorem kbegin_yes (c : Conf) (w : World) (h : mayC c = true) : Calls Try.prog 7 #[confV c] w fun e w' => ∃ hb P, e = .returned (.tuple #[.pointer (some ⟨hb, 0, none⟩), .bool true]) ∧ KRep w' w.heap.size hb P [] [] ∧ PNew c P ∧ Below w.heap.size w w' := by
  have h1 := fun W => pnew_yes c W h
  have h2 := fun W => good_c c W
  rw [h] at h2
  unfold confV at h1 h2 ⊢
  clear h
  replace h1 : Hid _ := h1
  replace h2 : Hid _ := h2
  go_enter Try.func7, Try.ntmps7
  go_wp2_with fail
  refine Calls.mono (h1.out _) ?_
  rintro e w1 ⟨P, rfl, hpr, hpn, hb1⟩
  have nb1 : w1.heap[w.heap.size]? = some (.cells #[I c.kind, I c.depth, I c.start, I c.slots, I c.width, I c.spin, I c.drain, I c.procs] 23 (0, 0)) := (hb1.block _ (by simp)).trans (nb_alloc _ _ _)
  have hb2 : Below w.heap.size w w1 := ((Below.refl _ _).alloc (Nat.le_refl _) _).trans (hb1.mono (by simp))
  obtain ⟨f1, _⟩ := nb_facts nb1
  have HPR : Hid _ := hpr
  clear hb1 h1 hpr
  go_wp2_with fail
  refine Calls.mono (h2.out _) ?_
  rintro e w2 ⟨rfl, hb3⟩
  have nb2 := (hb3.block _ (Array.getElem?_eq_some_iff.1 nb1).1).trans nb1
  obtain ⟨g1, _⟩ := nb_facts nb2
  have hb4 := hb2.trans (hb3.mono hb2.size)
  have HP2 : Hid _ := HPR.out.below hb3
  clear f1 hb3 hb2 HPR
  go_wp2_with fail
  go_ret2
  have hcf := hpn.conf
  refine ⟨w2.heap.size, P, rfl, ⟨⟨.slice none 0 0, .slice none 0 0, ?_, World.ownsRow_nil _ _ _ _, World.ownsRow_nil _ _ _ _⟩, hb4.size, ?_, by rw [hpn.procs]; rfl, rfl⟩, hpn, hb4.alloc hb4.size _⟩
  · unfold handCells
    rw [hcf]
    exact nb_alloc _ _ _
  · exact (HP2.out.below ((Below.refl _ _).alloc (Nat.le_refl _) _)).base2 (by simp)

end Go.Proofs.Ytjnmpejcegmkhab

namespace Go.Proofs.Ytjnmpejcegmkhab
open Go.ChangeShapes Go.WideShapes Go.ChangeAt Go.RowKit Go.Joins

theorem ownK2 : ownKnob Try.prog.godebug = none := by kernel_rfl

theorem laidOut2 : laidOutB Try.prog = true := by kernel_rfl

set_option maxRecDepth 100000 in
theorem conf_open2 {H : Type} {enc : TypeId × Value → H} {W : World} {base : Nat} {held : Bool} {sp : Nat → Bool} {v : Value} {d : DataW H} {p : List MemPlace} {r : Reach} {b0 : Nat}
    (hv : Value.okWide Try.prog W r b0 23 v) (h : DataW.Trod enc Try.prog W base sp held 23 v d p) : ∃ c : Conf, v = confV c := by
  obtain ⟨cs, rfl, hsz⟩ := okWide_struct Try.underlying23 hv
  obtain ⟨fuel, hf⟩ := h
  obtain ⟨xs, n, h1, h2, hl, hlen, hf⟩ := DataW.trod_struct Try.underlying23 hf
  have hlen8 : xs.length = 8 := hlen
  have hcs8 : cs.toList.length = 8 := by
    have e8 : Try.prog.cellsOf 23 = 8 := by kernel_rfl
    rw [Array.length_toList, hsz, e8]
  have e1 : Try.prog.cellsOf 3 = 1 := by kernel_rfl
  have key : ∀ i, i < 8 → ∀ f : Field, f.type = 3 → f.offset = i → DataW.trod enc Try.prog W base sp held n f.type ((cs.toList.drop f.offset).take (Try.prog.cellsOf f.type)) = xs[i]? → ∃ a : Int, cs.toList[i]? = some (I a) := by
    intro i hi f ht ho hx
    rw [ht, ho, e1] at hx
    rw [List.getElem?_eq_getElem (by omega : i < xs.length)] at hx
    obtain ⟨a, hc, _⟩ := DataW.trod_int Try.underlying3 hx
    refine ⟨a, ?_⟩
    have := congrArg (fun l => l[0]?) hc
    simpa using this
  obtain ⟨a0, q0⟩ := key 0 (by omega) _ rfl rfl (hf 0 _ rfl)
  obtain ⟨a1, q1⟩ := key 1 (by omega) _ rfl rfl (hf 1 _ rfl)
  obtain ⟨a2, q2⟩ := key 2 (by omega) _ rfl rfl (hf 2 _ rfl)
  obtain ⟨a3, q3⟩ := key 3 (by omega) _ rfl rfl (hf 3 _ rfl)
  obtain ⟨a4, q4⟩ := key 4 (by omega) _ rfl rfl (hf 4 _ rfl)
  obtain ⟨a5, q5⟩ := key 5 (by omega) _ rfl rfl (hf 5 _ rfl)
  obtain ⟨a6, q6⟩ := key 6 (by omega) _ rfl rfl (hf 6 _ rfl)
  obtain ⟨a7, q7⟩ := key 7 (by omega) _ rfl rfl (hf 7 _ rfl)
  refine ⟨⟨a0, a1, a2, a3, a4, a5, a6, a7⟩, ?_⟩
  have el : cs.toList = [I a0, I a1, I a2, I a3, I a4, I a5, I a6, I a7] := by
    apply List.ext_getElem?
    intro i
    by_cases hi : i < 8
    · have : i = 0 ∨ i = 1 ∨ i = 2 ∨ i = 3 ∨ i = 4 ∨ i = 5 ∨ i = 6 ∨ i = 7 := by omega
      rcases this with rfl | rfl | rfl | rfl | rfl | rfl | rfl | rfl
      · exact q0
      · exact q1
      · exact q2
      · exact q3
      · exact q4
      · exact q5
      · exact q6
      · exact q7
    · rw [List.getElem?_eq_none (by omega), List.getElem?_eq_none (by simp; omega)]
  show Value.agg cs = .agg #[I a0, I a1, I a2, I a3, I a4, I a5, I a6, I a7]
  have ec : cs = #[I a0, I a1, I a2, I a3, I a4, I a5, I a6, I a7] := Array.toList_inj.1 el
  rw [ec]

structure ScrAt (w : World) (v : Value) (n : Nat) (l : Nat → Int × Int × Int) : Prop where
  form : ∃ ao cap, v = .slice ao n cap ∧ n ≤ cap ∧ n ≤ maxLen ∧ ∀ i, i < n → ∃ b off, ao = some ⟨b, off, none⟩ ∧ b < w.heap.size ∧
    w.cell? ⟨b, off + i * 3, none⟩ = some (I (l i).1) ∧ w.cell? ⟨b, off + i * 3 + 1, none⟩ = some (I (l i).2.1) ∧ w.cell? ⟨b, off + i * 3 + 2, none⟩ = some (I (l i).2.2)

/-- A list of raw numbers. -/
structure PicksIn (w : World) (v : Value) (n : Nat) (f : Nat → Int) : Prop where
  form : ∃ ao cap, v = .slice ao n cap ∧ n ≤ cap ∧ n ≤ maxLen ∧ ∀ i, i < n → -9223372036854775808 ≤ f i ∧ ∃ b off, ao = some ⟨b, off, none⟩ ∧ b < w.heap.size ∧ w.cell? ⟨b, off + i, none⟩ = some (I (f i))
set_option maxRecDepth 100000 in
theorem kop_open2 {H : Type} {enc : TypeId × Value → H} {W : World} {base n : Nat} {held : Bool} {sp : Nat → Bool} {cs : List Value} {x : DataW H × List MemPlace}
    (h : DataW.trod enc Try.prog W base sp held n 31 cs = some x) (hl : cs.length = 3) : ∃ q : Int × Int × Int, cs = [I q.1, I q.2.1, I q.2.2] := by
  obtain ⟨xs, m, h1, h2, _, hlen, hf⟩ := DataW.trod_struct Try.underlying31 h
  have hlen3 : xs.length = 3 := hlen
  have e1 : Try.prog.cellsOf 3 = 1 := by kernel_rfl
  have key : ∀ i, i < 3 → ∀ f : Field, f.type = 3 → f.offset = i → DataW.trod enc Try.prog W base sp held m f.type ((cs.drop f.offset).take (Try.prog.cellsOf f.type)) = xs[i]? → ∃ a : Int, cs[i]? = some (I a) := by
    intro i hi f ht ho hx
    rw [ht, ho, e1] at hx
    rw [List.getElem?_eq_getElem (by omega : i < xs.length)] at hx
    obtain ⟨a, hc, _⟩ := DataW.trod_int Try.underlying3 hx
    refine ⟨a, ?_⟩
    have := congrArg (fun l => l[0]?) hc
    simpa using this
  obtain ⟨a0, q0⟩ := key 0 (by omega) _ rfl rfl (hf 0 _ rfl)
  obtain ⟨a1, q1⟩ := key 1 (by omega) _ rfl rfl (hf 1 _ rfl)
  obtain ⟨a2, q2⟩ := key 2 (by omega) _ rfl rfl (hf 2 _ rfl)
  refine ⟨(a0, a1, a2), ?_⟩
  apply List.ext_getElem?
  intro i
  by_cases hi : i < 3
  · have : i = 0 ∨ i = 1 ∨ i = 2 := by omega
    rcases this with rfl | rfl | rfl
    · exact q0
    · exact q1
    · exact q2
  · rw [List.getElem?_eq_none (by omega), List.getElem?_eq_none (by simp; omega)]

theorem kscript_open2 {H : Type} {enc : TypeId × Value → H} {W : World} {base : Nat} {held : Bool} {ao : Option Addr} {len cap : Nat} {d : DataW H} {p : List MemPlace}
    (h : DataW.Trod enc Try.prog W base (fun _ => true) held 24 (.slice ao len cap) d p) : ∃ l, ScrAt W (.slice ao len cap) len l := by
  obtain ⟨fuel, hf⟩ := h
  rcases Go.Deep.open_slice Try.underlying24 hf with ⟨hcs, _⟩ | ⟨a, len', cap', m, n, D, Pl, hcs, _, hl, hm, hmm, _, hx⟩
  · simp [Value.cells] at hcs
    obtain ⟨rfl, rfl, rfl⟩ := hcs
    exact ⟨fun _ => (0, 0, 0), ⟨none, 0, rfl, Nat.le_refl _, Nat.zero_le _, fun i hi => absurd hi (by omega)⟩⟩
  · simp [Value.cells] at hcs
    obtain ⟨rfl, rfl, rfl⟩ := hcs
    have e3 : Try.prog.cellsOf 31 = 3 := by kernel_rfl
    simp only [if_true] at hmm
    subst hmm
    rw [e3] at hx
    have key : ∀ i, i < len → ∃ q : Int × Int × Int, ∃ b off, (some a : Option Addr) = some ⟨b, off, none⟩ ∧ b < W.heap.size ∧
        W.cell? ⟨b, off + i * 3, none⟩ = some (I q.1) ∧ W.cell? ⟨b, off + i * 3 + 1, none⟩ = some (I q.2.1) ∧ W.cell? ⟨b, off + i * 3 + 2, none⟩ = some (I q.2.2) := by
      intro i hi
      obtain ⟨cs', h1, h2⟩ := hx i (by omega)
      obtain ⟨_, hlen, hc⟩ := World.cells?_some h1
      obtain ⟨q, rfl⟩ := kop_open2 h2 hlen
      have c0 := hc 0 (by omega)
      have c1 := hc 1 (by omega)
      have c2 := hc 2 (by omega)
      obtain ⟨b, off, sp⟩ := a
      have hsp : sp = none := by
        cases sp with
        | none => rfl
        | some s =>
          exfalso
          obtain ⟨cs0, g1, g2⟩ := hx 0 (by omega)
          obtain ⟨_, glen, gc⟩ := World.cells?_some g1
          have g0 := gc 0 (by omega)
          rw [List.getElem?_eq_getElem (by omega)] at g0
          have ea : ((⟨b, off, some s⟩ : Addr).add (0 * 3)).add 0 = ⟨b, off, some s⟩ := by simp [Addr.add]
          rw [ea] at g0
          unfold World.cell? at g0
          split at g0 <;> simp at g0
      subst hsp
      have ad : ∀ j, ((⟨b, off, none⟩ : Addr).add (i * 3)).add j = ⟨b, off + i * 3 + j, none⟩ := by
        intro j
        unfold Addr.add
        split <;> split <;> simp_all
      rw [ad] at c0 c1 c2
      refine ⟨q, b, off, rfl, cell_lt c1, ?_, ?_, ?_⟩
      · simpa using c0
      · simpa using c1
      · simpa using c2
    obtain ⟨l, hl2⟩ := Go.Deep.choose_lt key
    exact ⟨l, ⟨some a, _, rfl, hl, Nat.le_trans hl hm, hl2⟩⟩

theorem kpicks_open {H : Type} {enc : TypeId × Value → H} {W : World} {base : Nat} {held : Bool} {ao : Option Addr} {len cap : Nat} {d : DataW H} {p : List MemPlace}
    (h : DataW.Trod enc Try.prog W base (fun _ => true) held 25 (.slice ao len cap) d p) : ∃ l, PicksIn W (.slice ao len cap) len l := by
  obtain ⟨fuel, hf⟩ := h
  rcases Go.Deep.open_slice Try.underlying25 hf with ⟨hcs, _⟩ | ⟨a, len', cap', m, n, D, Pl, hcs, _, hl, hm, hmm, _, hx⟩
  · simp [Value.cells] at hcs
    obtain ⟨rfl, rfl, rfl⟩ := hcs
    exact ⟨fun _ => 0, ⟨none, 0, rfl, Nat.le_refl _, Nat.zero_le _, fun i hi => absurd hi (by omega)⟩⟩
  · simp [Value.cells] at hcs
    obtain ⟨rfl, rfl, rfl⟩ := hcs
    have e1 : Try.prog.cellsOf 3 = 1 := by kernel_rfl
    simp only [if_true] at hmm
    subst hmm
    rw [e1] at hx
    have key : ∀ i, i < len → ∃ q : Int, -9223372036854775808 ≤ q ∧ ∃ b off, (some a : Option Addr) = some ⟨b, off, none⟩ ∧ b < W.heap.size ∧ W.cell? ⟨b, off + i, none⟩ = some (I q) := by
      intro i hi
      obtain ⟨cs', h1, h2⟩ := hx i (by omega)
      obtain ⟨_, hlen, hc⟩ := World.cells?_some h1
      obtain ⟨q, rfl, _, hwf⟩ := DataW.trod_int Try.underlying3 h2
      have c0 := hc 0 (by omega)
      obtain ⟨b, off, sp⟩ := a
      have hsp : sp = none := by
        cases sp with
        | none => rfl
        | some s =>
          exfalso
          obtain ⟨cs0, g1, g2⟩ := hx 0 (by omega)
          obtain ⟨_, glen, gc⟩ := World.cells?_some g1
          have g0 := gc 0 (by omega)
          rw [List.getElem?_eq_getElem (by omega)] at g0
          have ea : ((⟨b, off, some s⟩ : Addr).add (0 * 1)).add 0 = ⟨b, off, some s⟩ := by simp [Addr.add]
          rw [ea] at g0
          unfold World.cell? at g0
          split at g0 <;> simp at g0
      subst hsp
      have ad : ∀ j, ((⟨b, off, none⟩ : Addr).add (i * 1)).add j = ⟨b, off + i * 1 + j, none⟩ := by
        intro j
        unfold Addr.add
        split <;> split <;> simp_all
      rw [ad] at c0
      have c0' : W.cell? ⟨b, off + i, none⟩ = some (I q) := by simpa using c0
      exact ⟨q, (bounds_i64 hwf).1, b, off, rfl, cell_lt c0', c0'⟩
    obtain ⟨l, hl2⟩ := Go.Deep.choose_lt key
    exact ⟨l, ⟨some a, _, rfl, hl, Nat.le_trans hl hm, hl2⟩⟩

end Go.Proofs.Ytjnmpejcegmkhab

namespace Go.Proofs.Ytjnmpejcegmkhab
open Go.RowKit

theorem PicksIn.at' {w W : World} {B : Nat} {v : Value} {n : Nat} {f : Nat → Int} (h : PicksIn w v n f) (hb : Below w.heap.size w W) (hB : w.heap.size ≤ B) : PicksAt W B v n f := by
  obtain ⟨ao, cap, h1, h2, h3, h4⟩ := h.form
  refine ⟨⟨ao, cap, h1, h2, h3, fun i hi => ?_⟩⟩
  obtain ⟨a, b, off, e, lb, cb⟩ := h4 i hi
  exact ⟨a, b, off, e, by omega, Nat.lt_of_lt_of_le lb hb.size, (hb.cell (p := ⟨b, off + i, none⟩) lb).trans cb⟩

theorem StillW.no67 {w : World} {B hb : Nat} {c : Conf} {S : Gh} {P : PLay} (h : KSt w B hb c S P) (hs : StillW S) : ∀ i, (hi : i < S.L.procs.length) → ¬ ((S.L.procs[i]).2.phase = 6 ∨ (S.L.procs[i]).2.phase = 7) := by
  intro i hi
  have := hs.still h i hi
  unfold arrived at this
  have e : (toPP (S.L.procs[i]).2).phase = (S.L.procs[i]).2.phase := rfl
  rw [e] at this
  omega

set_option maxHeartbeats 8000000 in
set_option maxRecDepth 100000 in
theorem kept_walk (c : Conf) (w : World) (v : Value) (n : Nat) (l : Nat → Int × Int × Int) (hs : ScrAt w v n l) (pv : Value) (m : Nat) (pf : Nat → Int) (hpk : PicksIn w pv m pf) : Calls Try.prog 3 #[confV c, v, pv] w fun e w' => e = .returned (.bool true) ∧ Below w.heap.size w w' := by
  obtain ⟨ao, cap, rfl, n1, n2, h4⟩ := hs.form
  unfold maxLen at n2
  have HPK : Hid _ := hpk
  obtain ⟨ap, cp, epv, _⟩ := hpk.form
  subst epv
  clear hpk
  have H4 : Hid _ := h4
  clear hs h4
  have K1 : Hid (∀ e : c.kind = 0, (if c.kind = 0 then 1 else c.kind) = 1) := fun e => if_pos e
  have K2 : Hid (∀ e : ¬ c.kind = 0, (if c.kind = 0 then 1 else c.kind) = c.kind) := fun e => if_neg e
  generalize (if c.kind = 0 then 1 else c.kind) = kk at *
  unfold confV
  obtain ⟨ckind, cdepth, cstart, cslots, cwidth, cspin, cdrain, cprocs⟩ := c
  simp only at *
  have nb0 : (w.alloc (.cells #[I ckind, I cdepth, I cstart, I cslots, I cwidth, I cspin, I cdrain, I cprocs] 23)).heap[w.heap.size]? = some (.cells #[I ckind, I cdepth, I cstart, I cslots, I cwidth, I cspin, I cdrain, I cprocs] 23 (0, 0)) := nb_alloc _ _ _
  have hb0 : Below w.heap.size w (w.alloc (.cells #[I ckind, I cdepth, I cstart, I cslots, I cwidth, I cspin, I cdrain, I cprocs] 23)) := (Below.refl _ _).alloc (Nat.le_refl _) _
  go_enter Try.func3, Try.ntmps3
  go_upto_if 15 with fail
  go_cut [] (fun wx => wx.heap[w.heap.size]? = some (.cells #[I kk, I cdepth, I cstart, I cslots, I cwidth, I cspin, I cdrain, I cprocs] 23 (0, 0)) ∧ Below w.heap.size w wx)
  case first =>
    by_cases e : ckind = 0
    · have b : (ckind == 0) = true := by rw [beq_iff_eq]; exact e
      have ed := K1.out e
      subst ed
      clear e
      go_wp2_with fail
      go_meet
      exact ⟨nb_alloc _ _ _, (Below.refl _ _).alloc (Nat.le_refl _) _⟩
    · have b : (ckind == 0) = false := by rw [beq_eq_false_iff_ne]; exact e
      have ed := K2.out e
      subst ed
      clear e
      go_wp2_with fail
      go_meet
      exact ⟨nb0, hb0⟩
  case rest =>
    obtain ⟨nb1, hb1⟩ := hcut
    have hk1 : Hid (kk ≠ 0) := by
      show kk ≠ 0
      by_cases e : ckind = 0
      · rw [K1.out e]; omega
      · rw [K2.out e]; exact e
    generalize wc = wa at *
    obtain ⟨x1, f1⟩ := nb_facts nb1
    have l1 := (Array.getElem?_eq_some_iff.1 nb1).1
    clear nb0 hb0 K1 K2
    cases hm : mayC ⟨kk, cdepth, cstart, cslots, cwidth, cspin, cdrain, cprocs⟩
    · have hbg := fun W => kbegin_no ⟨kk, cdepth, cstart, cslots, cwidth, cspin, cdrain, cprocs⟩ W hm
      unfold confV at hbg
      replace hbg : Hid _ := hbg
      clear hm
      go_wp2_with fail
      refine Calls.mono (hbg.out _) ?_
      rintro e w1 ⟨rfl, hb2⟩
      go_wp2_with fail
      go_ret
      exact ⟨rfl, hb1.trans (hb2.mono hb1.size)⟩
    · have hbg := fun W => kbegin_yes ⟨kk, cdepth, cstart, cslots, cwidth, cspin, cdrain, cprocs⟩ W hm
      unfold confV at hbg
      replace hbg : Hid _ := hbg
      have HM : Hid _ := hm
      have hk0 : Hid (kk = 1) := by
        show kk = 1
        have := hk1.out
        simp [mayC] at hm
        omega
      clear hm
      go_wp2_with fail
      refine Calls.mono (hbg.out _) ?_
      rintro e w2 ⟨hb, P, rfl, hk, hpn, hb2⟩
      have hst := KSt.new HM.out hk hpn hb2.size
      have hbw : Below w.heap.size w w2 := hb1.trans (hb2.mono hb1.size)
      have hz0 : UOk ⟨kk, cdepth, cstart, cslots, cwidth, cspin, cdrain, cprocs⟩ (newLay ⟨kk, cdepth, cstart, cslots, cwidth, cspin, cdrain, cprocs⟩) := UOk.new hk0.out
      have HB : Hid (w.heap.size ≤ wa.heap.size) := hb1.size
      generalize wa.heap.size = B at *
      have HSX : Hid (∃ S P, KSt w2 B hb ⟨kk, cdepth, cstart, cslots, cwidth, cspin, cdrain, cprocs⟩ S P ∧ UOk ⟨kk, cdepth, cstart, cslots, cwidth, cspin, cdrain, cprocs⟩ S.L) := ⟨_, _, hst, hz0⟩
      clear hbg hb2 hk hpn hst hz0 HM nb1 x1 f1 l1 hb1 hk0 hk1
      generalize (⟨kk, cdepth, cstart, cslots, cwidth, cspin, cdrain, cprocs⟩ : Conf) = c at *
      go_wp2_with fail
      go_loopw [8, 9, 10] (fun _ ii _ wr => ∃ k : Nat, k ≤ n ∧ ii = .int .i64 k ∧ Hid (∃ S P, KSt wr B hb c S P ∧ UOk c S.L) ∧ Below w.heap.size w wr) (fun _ ii _ _ => n - (intOf ii).toNat)
      case atStart => exact ⟨0, Nat.zero_le _, rfl, HSX.out, hbw⟩
      case round =>
        obtain ⟨k, hk, rfl, hst', hbr⟩ := hrel
        obtain ⟨S, P', hst2, hx2⟩ := hst'.out
        by_cases hlt : k < n
        · obtain ⟨b, off, rfl, lb, p0, p1, p2⟩ := H4.out k hlt
          have d0 := (hbr.cell (p := ⟨b, off + k * 3, none⟩) lb).trans p0
          have d1 := (hbr.cell (p := ⟨b, off + k * 3 + 1, none⟩) lb).trans p1
          have d2 := (hbr.cell (p := ⟨b, off + k * 3 + 2, none⟩) lb).trans p2
          have ld := cell_lt d0
          generalize (l k).1 = o1 at *
          generalize (l k).2.1 = o2 at *
          generalize (l k).2.2 = o3 at *
          have hpl := hplay_c hst2 o1 o2 o3
          have HX3 : Hid (UOk c (gplay c S o1 o2 o3).L) := UOk.play hst2 hx2 o1 o2 o3
          have HBB : Hid (B ≤ _) := hst2.hB
          replace hpl : Hid _ := hpl
          have bk : decide ((k : Int) < (n : Int)) = true := decide_eq_true (by omega)
          clear p0 p1 p2 H4 hst2 hst' HSX hx2 HPK
          generalize gplay c S o1 o2 o3 = S3 at *
          go_wp2_with fail
          refine Calls.mono hpl.out ?_
          rintro e w3 ⟨rfl, ⟨P3, hst3⟩, hc3⟩
          have hb3 : Below w.heap.size w w3 := hbr.trans ((hc3.below HBB.out).mono HB.out)
          have hsl := kstill_c hst3
          replace hsl : Hid _ := hsl
          have HS3 : Hid (KSt w3 B hb c S3 P3) := hst3
          clear hpl hc3 hst3
          go_wp2_with fail
          refine Calls.mono hsl.out ?_
          rintro e w4 ⟨⟨b4, rfl, hb4i⟩, hb4⟩
          have hva := kvalues_c (HS3.out.below hb4) HX3.out.v b4 (fun e => StillW.no67 (HS3.out.below hb4) (hb4i.1 e))
          replace hva : Hid _ := hva
          have hb5 : Below w.heap.size w w4 := hb3.trans (hb4.mono hb3.size)
          have HS4 : Hid (KSt w4 B hb c S3 P3) := HS3.out.below hb4
          clear hsl hb4 hb3 HS3 hb4i
          go_wp2_with fail
          refine Calls.mono hva.out ?_
          rintro e w5 ⟨rfl, hb6⟩
          have HS5 : Hid (∃ S P, KSt w5 B hb c S P ∧ UOk c S.L) := ⟨_, _, HS4.out.below hb6, HX3.out⟩
          have hb7 : Below w.heap.size w w5 := hb5.trans (hb6.mono hb5.size)
          clear hva hb6 HS4
          go_wp2_with fail
          go_roundw
          case rel => exact ⟨k + 1, by omega, by go_num, HS5.out, hb7⟩
          case measure => simp [intOf]; omega
        · have bk : decide ((k : Int) < (n : Int)) = false := decide_eq_false (by omega)
          have hse := kpsettle_c hst2 hx2 _ m pf (PicksIn.at' HPK.out hbr HB.out)
          replace hse : Hid _ := hse
          clear H4 HSX hst' hst2 hx2
          go_wp2_with fail
          refine Calls.mono hse.out ?_
          rintro e w3 ⟨rfl, ⟨S3, P3, hst3, hx3, _, harr⟩, hb3⟩
          have hb4 : Below w.heap.size w w3 := hbr.trans (hb3.mono HB.out)
          have hsw : StillW S3 := fun p hp _ _ => harr p hp
          have hsl := kstill_c hst3
          replace hsl : Hid _ := hsl
          have HS3 : Hid (KSt w3 B hb c S3 P3) := hst3
          have HX3 : Hid (UOk c S3.L) := hx3
          have HSW : Hid (StillW S3) := hsw
          clear hse hst3 hx3 harr hsw hb3
          go_wp2_with fail
          refine Calls.mono hsl.out ?_
          rintro e w4 ⟨⟨b4, rfl, hb4i⟩, hb5⟩
          obtain rfl : b4 = true := hb4i.2 HSW.out
          have hva := kvalues_c (HS3.out.below hb5) HX3.out.v true (fun _ => StillW.no67 (HS3.out.below hb5) HSW.out)
          replace hva : Hid _ := hva
          have hb6 : Below w.heap.size w w4 := hb4.trans (hb5.mono hb4.size)
          clear hsl hb4i hb5
          go_wp2_with fail
          refine Calls.mono hva.out ?_
          rintro e w5 ⟨rfl, hb7⟩
          clear hva
          go_wp2_with fail
          go_ret
          exact ⟨rfl, hb6.trans (hb7.mono hb6.size)⟩

end Go.Proofs.Ytjnmpejcegmkhab

namespace Go.Proofs.Ytjnmpejcegmkhab
open Go.ChangeShapes Go.WideShapes Go.ChangeAt Go.RowKit Go.Joins

set_option maxRecDepth 100000 in
theorem kept_lifted (os : Os) (started : os.Started) (H : Type) (enc : TypeId × Value → H) :
    ReturnsInHanded {} Try.checked os 3 .any (Rows.keptSpec.pre6 enc Try.prog Try.f3 Rows.keptRow.domain false) (Rows.keptSpec.post enc Try.prog Try.f3 false true false false) := by
  refine returnsInHanded_of_change (C := Try.checked) ownK2 started (by kernel_rfl) Try.func3
    (ChangeSpec.witness6 (enc := enc) (C := Try.checked) false ⟨#[], #[.agg #[.int .i64 0, .int .i64 0, .int .i64 0, .int .i64 0, .int .i64 0, .int .i64 0, .int .i64 0, .int .i64 0], .slice none 0 0, .slice none 0 0], []⟩ 8 (by kernel_rfl) (by kernel_rfl) (by kernel_rfl) (by kernel_rfl)) ?_
  intro W base args ds gs before hval0 hW _ _
  have hval : ∀ (j : Nat) t v, Try.f3.params[j]? = some t → args[j]? = some v → Value.okWide Try.prog W .any base t v := hval0
  have hW' := hW
  obtain ⟨p, q, hA0, hV, rfl, _, _⟩ := hW
  have hA : DataW.TrodAll enc Try.prog W 0 (fun _ => true) true Try.f3.params.toList args.toList ds p := hA0
  rw [Try.params3] at hA hval
  obtain ⟨v0, vs0, d0, ds0, p0, q0, hargs, rfl, rfl, h0, r0⟩ := trodAll_cons hA
  obtain ⟨v1, vs1, d1, ds1, p1, q1, rfl, rfl, rfl, h1, r1⟩ := trodAll_cons r0
  obtain ⟨v2, vs2, d2, ds2, p2, q2, rfl, rfl, rfl, h2, r2⟩ := trodAll_cons r1
  obtain ⟨rfl, rfl, rfl⟩ := trodAll_nil r2
  obtain rfl : args = #[v0, v1, v2] := by cases args; simp_all
  obtain ⟨rfl, rfl⟩ := trodVars_none hV
  have k0 := h0
  have k1 := h1
  have k2 := h2
  have lt0 : ∀ x ∈ p0, x.block < W.heap.size := by obtain ⟨m, hm⟩ := k0; exact DataW.trod_lt m _ _ _ hm
  have lt1 : ∀ x ∈ p1, x.block < W.heap.size := by obtain ⟨m, hm⟩ := k1; exact DataW.trod_lt m _ _ _ hm
  have lt2 : ∀ x ∈ p2, x.block < W.heap.size := by obtain ⟨m, hm⟩ := k2; exact DataW.trod_lt m _ _ _ hm
  obtain ⟨c, rfl⟩ := conf_open2 (hval 0 23 v0 rfl rfl) h0
  obtain ⟨a1, len1, cap1, rfl⟩ := okWide_slice Try.underlying24 (hval 1 24 v1 rfl rfl)
  obtain ⟨l, hs⟩ := kscript_open2 h1
  obtain ⟨a2, len2, cap2, rfl⟩ := okWide_slice Try.underlying25 (hval 2 25 v2 rfl rfl)
  obtain ⟨pf, hpk⟩ := kpicks_open h2
  clear hA0 hval0
  refine (kept_walk c W _ len1 l hs _ len2 pf hpk).mono fun e W' ⟨he, bel⟩ => ?_
  subst he
  exact ⟨_, rfl, _, _, _, [], _, [], hW', trodAll_mk1 (shut_bool Try.underlying4 _), (trodAll_cons_mk (Below.trod laidOut2 (by kernel_rfl) (of_decide_eq_true (by kernel_rfl)) k0 bel lt0) (trodAll_cons_mk (Below.trod laidOut2 (by kernel_rfl) (of_decide_eq_true (by kernel_rfl)) k1 bel lt1) (trodAll_cons_mk (Below.trod laidOut2 (by kernel_rfl) (of_decide_eq_true (by kernel_rfl)) k2 bel lt2) trodAll_mk0))), rfl, bel.frame _, fun h => by cases h⟩

theorem kept_holds : Rows.KeptSaid :=
  OpenClaim.holds_of_wide 3 Try.f3 rfl rfl rfl rfl rfl rfl rfl ⟨rfl, rfl, rfl, rfl, rfl⟩ rfl rfl rfl rfl rfl (by kernel_rfl) Try.func3 (by kernel_rfl)
    (of_decide_eq_true (by kernel_rfl)) (by unfold Func.isWrapper; first | (rw [if_pos (by decide +kernel)]; kernel_rfl) | (rw [if_neg (by decide +kernel)]; exact ⟨rfl, rfl⟩))
    (fun os started H enc _ => kept_lifted os started H enc)

#print axioms kept_holds
end Go.Proofs.Ytjnmpejcegmkhab
