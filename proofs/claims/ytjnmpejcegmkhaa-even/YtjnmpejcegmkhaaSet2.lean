/- The contract of package prismkeep's settle: behind P15's rounds everybody has arrived. No statement of the seat is proved here. -/
import Derived.Test.YtjnmpejcegmkhaaSet1
import Derived.Deep.DeepCutAuto
import Derived.Deep.QuietTactic
import Derived.BigQuiet
namespace Go.Proofs.Ytjnmpejcegmkhaa
open Go.RowKit

/-- Which of n things the raw number x speaks of. -/
def pickV (x : Int) (n : Nat) : Nat := ((if x < 0 then -(x + 1) else x) % (n : Int)).toNat
theorem pickV_lt (x : Int) (n : Nat) (hn : 1 ≤ n) : pickV x n < n := by
  unfold pickV
  have := Int.emod_lt_of_pos (if x < 0 then -(x + 1) else x) (show 0 < (n : Int) by omega)
  have := Int.emod_nonneg (if x < 0 then -(x + 1) else x) (show (n : Int) ≠ 0 by omega)
  omega

theorem pick_f (x : Int) (hx0 : -9223372036854775808 ≤ x) (n : Nat) (hn : 1 ≤ n) (hn9 : n ≤ 2000000000000) (w : World) : Calls Try.prog 16 #[I x, I n] w fun e w' => e = .returned (I (pickV x n)) ∧ w' = w := by
  have hne : ((n : Int) == 0) = false := by simp; omega
  by_cases hx : x < 0
  · have hv : 0 ≤ -(x + 1) := by omega
    have HR : Hid (-((x + 1).tmod n) = ((pickV x n : Nat) : Int)) := by
      show _ = _
      unfold pickV
      rw [if_pos hx, ← Int.neg_tmod, Int.tmod_eq_emod_of_nonneg hv]
      have := Int.emod_nonneg (-(x + 1)) (show (n : Int) ≠ 0 by omega)
      omega
    generalize pickV x n = pk at *
    go_enter Try.func16, Try.ntmps16
    go_wp2
    go_ret
    exact ⟨ret_i HR.out, rfl⟩
  · have hd : decide (x < 0) = false := by simp; omega
    have HR : Hid (x % n = ((pickV x n : Nat) : Int)) := by
      show _ = _
      unfold pickV
      rw [if_neg hx]
      have := Int.emod_nonneg x (show (n : Int) ≠ 0 by omega)
      omega
    generalize pickV x n = pk at *
    go_enter Try.func16, Try.ntmps16
    go_wp2
    go_ret
    exact ⟨ret_i HR.out, rfl⟩

/-- A list of raw numbers that lies below B. -/
structure PicksAt (w : World) (B : Nat) (v : Value) (n : Nat) (f : Nat → Int) : Prop where
  form : ∃ ao cap, v = .slice ao n cap ∧ n ≤ cap ∧ n ≤ maxLen ∧ ∀ i, i < n → -9223372036854775808 ≤ f i ∧ ∃ b off, ao = some ⟨b, off, none⟩ ∧ b < B ∧ b < w.heap.size ∧ w.cell? ⟨b, off + i, none⟩ = some (I (f i))

def natI (l : List Nat) : List Int := l.map (fun x : Nat => Int.ofNat x)

/-- Whom the first i turns of a round have met. -/
def MetBy (liv dn : List Nat) (f : Nat) (up : Bool) (i : Nat) : Prop :=
  ∀ t, t < i → t < liv.length → ∃ x, liv[if up then (f + t) % liv.length else (f + liv.length - t) % liv.length]? = some x ∧ x ∈ dn
theorem MetBy.all {liv dn : List Nat} {f : Nat} {up : Bool} (hf : f < liv.length) (h : MetBy liv dn f up liv.length) : ∀ x, x ∈ liv → x ∈ dn := by
  intro x hx
  obtain ⟨t, ht, rfl⟩ := List.getElem_of_mem hx
  cases up
  · obtain ⟨i, hi, e⟩ := turn_down liv.length f t hf ht
    obtain ⟨y, h1, h2⟩ := h i hi hi
    simp only [Bool.false_eq_true, if_false, e] at h1
    rw [List.getElem?_eq_getElem ht] at h1
    simp only [Option.some.injEq] at h1
    rw [h1]; exact h2
  · obtain ⟨i, hi, e⟩ := turn_up liv.length f t hf ht
    obtain ⟨y, h1, h2⟩ := h i hi hi
    simp only [if_true, e] at h1
    rw [List.getElem?_eq_getElem ht] at h1
    simp only [Option.some.injEq] at h1
    rw [h1]; exact h2
theorem MetBy.more {liv dn : List Nat} {f : Nat} {up : Bool} {i : Nat} (h : MetBy liv dn f up i) (x : Nat) (hx : i < liv.length → liv[if up then (f + i) % liv.length else (f + liv.length - i) % liv.length]? = some x) : MetBy liv (x :: dn) f up (i + 1) := by
  intro t ht htl
  by_cases e : t = i
  · subst e
    exact ⟨x, hx htl, by simp⟩
  · obtain ⟨y, h1, h2⟩ := h t (by omega) htl
    exact ⟨y, h1, by simp [h2]⟩
theorem MetBy.same {liv dn : List Nat} {f : Nat} {up : Bool} {i : Nat} (h : MetBy liv dn f up i) (hi : liv.length ≤ i) : MetBy liv dn f up (i + 1) := by
  intro t ht htl
  exact h t (by omega) htl

theorem KSt.confAt {w : World} {B hb : Nat} {c : Conf} {S : Gh} {P : PLay} (h : KSt w B hb c S P) : w.cell? ⟨hb, 1, none⟩ = some (I c.kind) ∧ w.cell? ⟨hb, 2, none⟩ = some (I c.depth) ∧ w.cell? ⟨hb, 3, none⟩ = some (I c.start) ∧ w.cell? ⟨hb, 4, none⟩ = some (I c.slots) ∧ w.cell? ⟨hb, 5, none⟩ = some (I c.width) ∧ w.cell? ⟨hb, 6, none⟩ = some (I c.spin) ∧ w.cell? ⟨hb, 7, none⟩ = some (I c.drain) ∧ w.cell? ⟨hb, 8, none⟩ = some (I c.procs) := by
  obtain ⟨ov, wv, a, b, _⟩ := h.rep.blk
  have e := h.rel.rel.cP
  have f := (nb_facts a).1
  rw [← e]
  exact ⟨by rw [f 1]; rfl, by rw [f 2]; rfl, by rw [f 3]; rfl, by rw [f 4]; rfl, by rw [f 5]; rfl, by rw [f 6]; rfl, by rw [f 7]; rfl, by rw [f 8]; rfl⟩

set_option maxHeartbeats 16000000 in
set_option maxRecDepth 100000 in
theorem ksettle_c {w : World} {B hb : Nat} {c : Conf} {S : Gh} {P : PLay} (h : KSt w B hb c S P) (pk : XOk c S.L) (pv : Value) (m : Nat) (pf : Nat → Int) (hpk : PicksAt w B pv m pf) :
    Calls Try.prog 29 #[.pointer (some ⟨hb, 0, none⟩), pv] w fun e w' => e = .returned (.bool true) ∧ (∃ S' P', KSt w' B hb c S' P' ∧ XOk c S'.L ∧ S'.L.procs.length = S.L.procs.length ∧ ∀ i, (hi : i < S'.L.procs.length) → arrived (toPP (S'.L.procs[i]).2)) ∧ Below B w w' := by
  obtain ⟨ap, cp, rfl, p1, p2, HP⟩ := hpk.form
  have HSR : Hid (∀ W, Below w.heap.size w W → SetR W B hb c S.L.procs.length (livTo S.L.procs S.L.procs.length) 0) := fun W hw => SetSt.start (h.below hw) pk
  have HAT : Hid (∀ W, Below w.heap.size w W → ∀ p, (hp : p < S.L.procs.length) → Calls Try.prog 44 #[.pointer (some ⟨hb, 0, none⟩), I p] W fun e w' => e = .returned (.agg #[I (S.L.procs[p]).2.phase, I (S.L.procs[p]).2.node, I (S.L.procs[p]).2.val]) ∧ Below W.heap.size W w') := fun W hw p hp => h.at hw p hp
  obtain ⟨ao9, cap9, c9, q1, q2, q3⟩ := h.opsAt
  have l0 := cell_lt c9
  have HBW : Hid (B ≤ w.heap.size) := h.hB
  have HMY : Hid (mayC c = true) := h.rel.rel.may
  have HPP : Hid _ := HP
  unfold maxLen at p2 q3
  clear h pk hpk HP
  generalize S.L.procs = ps at *
  obtain ⟨i0, hi, hz0, hz1, hz2⟩ := info_parts Try.info3
  go_enter Try.func29, Try.ntmps29
  go_wp2_with fail
  go_loopw [5, 6, 7] (fun xx pp _ wr => ∃ q : Nat, q ≤ ps.length ∧ pp = .int .i64 q ∧ wr.ownsRow w.heap.size 3 1 xx (livTo ps q).length ((natI (livTo ps q)).map I) ∧ Below w.heap.size w wr) (fun _ pp _ _ => ps.length - (intOf pp).toNat)
  case atStart => exact ⟨0, Nat.zero_le _, rfl, World.ownsRow_nil _ _ _ _, Below.refl _ _⟩
  case round =>
    obtain ⟨q, hq, rfl, hown, hbr⟩ := hrel
    have d9 := (hbr.cell (p := ⟨hb, 9, none⟩) l0).trans c9
    have ld := cell_lt d9
    by_cases hlt : q < ps.length
    · have ha := HAT.out _ hbr q hlt
      have HLV : Hid (livTo ps (q + 1) = livTo ps q ++ if (ps[q]).2.phase = 20 then [] else [q]) := by show _ = _; simp [livTo, hlt]
      have hll := livTo_len ps q
      generalize (ps[q]).2.phase = ph at *
      generalize (ps[q]).2.node = nd at *
      generalize (ps[q]).2.val = vl at *
      replace ha : Hid _ := ha
      have bq : decide ((q : Int) < (ps.length : Int)) = true := decide_eq_true (by omega)
      clear HPP
      go_wp2_with fail
      refine Calls.mono ha.out ?_
      rintro e w1 ⟨rfl, hb1⟩
      have hb2 : Below w.heap.size w w1 := hbr.trans (hb1.mono hbr.size)
      have hown1 := ownsRow_below hown hb1 (Nat.le_refl _)
      have hsz := hb2.size
      have hb3 : Below w.heap.size w (w1.alloc (.cells #[I ph, I nd, I vl] 84)) := hb2.alloc hsz _
      clear hb1 hown ha
      by_cases e20 : ph = 20
      · subst e20
        have HL2 : Hid (livTo ps (q + 1) = livTo ps q) := by show _ = _; rw [HLV.out]; simp
        clear HLV
        go_wp2_with fail
        go_roundw
        case rel => exact ⟨q + 1, by omega, by go_num, by rw [HL2.out]; exact hown1.alloc _, hb3⟩
        case measure => simp [intOf]; omega
      · have b20 : (ph != 20) = true := by rw [bne_iff_ne]; exact e20
        have HL2 : Hid (livTo ps (q + 1) = livTo ps q ++ [q]) := by show _ = _; rw [HLV.out, if_neg e20]
        clear HLV e20
        go_wp2_with (at_builtin; refine wpList_append_own _ rfl _ _ 27 rfl w.heap.size 3 i0 (.int .i64 0) 1 8 Try.underlying27 hi hz0 hz1 hz2 rfl (by decide) _ _ _ rfl ((hown1.alloc _).alloc _) ⟨w1.heap.size + 1, 0, none⟩ 1 1 [.int .i64 q] rfl rfl ?c1 ?c2 ?c3 ?c4 ?c5 ?_)
        case c1 => exact cells_new_at (w1.alloc (.cells #[I ph, I nd, I vl] 84)) [I q] 3 (w1.heap.size + 1) (by simp)
        case c2 => intro u hu; simp at hu; subst hu; rfl
        case c3 => unfold maxLen; omega
        case c4 => omega
        case c5 => simp; omega
        · intro x' w3 hown' hgrow _
          have hb4 : Below w.heap.size w w3 := (hb3.alloc (by simp; omega) _).grown hgrow (by simp; omega) (by
            intro j hj
            exact (hown1.lt j hj).1)
          clear hgrow hown1
          go_wp2_with fail
          go_roundw
          case rel => exact ⟨q + 1, by omega, by go_num, by rw [HL2.out]; simpa [natI] using hown', hb4⟩
          case measure => simp [intOf]; omega
    · have eq : q = ps.length := by omega
      subst eq
      have HS0 := HSR.out _ hbr
      have HLT : Hid (∀ x, x ∈ livTo ps ps.length → x < ps.length) := fun x hx => (livTo_lt ps ps.length x hx).2
      have hlv := livTo_len ps ps.length
      have bq : decide ((ps.length : Int) < (ps.length : Int)) = false := decide_eq_false (by omega)
      obtain ⟨al, cl, el, r1, r2, r3, HWt⟩ := row_cells hown
      subst el
      have HOW : Hid _ := hown
      have HS1 : Hid (SetR wr B hb c ps.length (livTo ps ps.length) 0) := HS0
      have HBR : Hid _ := hbr
      have HKC : Hid (∀ W, Calls Try.prog 53 #[.agg #[I c.kind, I c.depth, I c.start, I c.slots, I c.width, I c.spin, I c.drain, I c.procs]] W fun e w' => e = .returned (I (calmR c)) ∧ Below W.heap.size W w') := fun W => kcalm_c c HMY.out W
      have hR : 0 ≤ calmR c ∧ calmR c ≤ 1000 := by
        have hm := HMY.out
        have hc : 0 ≤ c.depth ∧ c.depth ≤ 4 ∧ 0 ≤ c.spin ∧ c.spin ≤ 8 ∧ 0 ≤ c.drain ∧ c.drain ≤ 16 ∧ 1 ≤ c.procs ∧ c.procs ≤ 16 := by simp [mayC] at hm; omega
        have b1 : (c.procs + 1) * (c.drain + 8) ≤ 17 * 24 := Int.mul_le_mul (by omega) (by omega) (by omega) (by omega)
        have b2 : 0 ≤ (c.procs + 1) * (c.drain + 8) := Int.mul_nonneg (by omega) (by omega)
        have b3 : (c.depth + 1) * (c.spin + 12) ≤ 5 * 20 := Int.mul_le_mul (by omega) (by omega) (by omega) (by omega)
        have b4 : 0 ≤ (c.depth + 1) * (c.spin + 12) := Int.mul_nonneg (by omega) (by omega)
        unfold calmR
        omega
      unfold maxLen at r2
      clear HSR HAT hown HS0 hbr HWt hi hz0 hz1 hz2 c9
      generalize livTo ps ps.length = liv at *
      have hnp : ps.length ≤ 256 := q2
      generalize hnn : ps.length = n at *
      have HNN : Hid (n = ps.length) := hnn.symm
      clear hnn
      generalize hRR : calmR c = R at *
      replace hRR : Hid _ := hRR
      go_wp2_with fail
      generalize wr = w1 at *
      go_loopw [8, 9, 10, 11, 12, 13, 14] (fun kk _ _ _ _ _ _ wk => ∃ k : Nat, (k : Int) ≤ R ∧ kk = .int .i64 k ∧ Hid (SetR wk B hb c n liv k) ∧ Hid (ChgT B KS w1 wk)) (fun kk _ _ _ _ _ _ _ => (R - intOf kk).toNat)
      case atStart => exact ⟨0, by omega, rfl, HS1.out, ChgT.refl _ _ _⟩
      case round =>
        obtain ⟨k, hk, rfl, hsr, hch⟩ := hrel
        obtain ⟨S1, P1, hk1, _⟩ := hsr.out
        obtain ⟨g1, g2, g3, g4, g5, g6, g7, g8⟩ := hk1.confAt
        have lg := cell_lt g1
        clear hk1
        go_wp2_with fail
        refine Calls.mono (HKC.out _) ?_
        rintro e w2 ⟨rfl, hb2⟩
        have hsr2 : Hid (SetR w2 B hb c n liv k) := SetR.below hsr.out hb2
        have hch2 : Hid (ChgT B KS w1 w2) := hch.out.trans (ChgT.of_below hb2)
        have HFIN : Hid (Below B w w2) := (HBR.out.mono HBW.out).trans (hch2.out.below (Nat.le_trans HBW.out HBR.out.size))
        clear g1 g2 g3 g4 g5 g6 g7 g8 lg hb2 hsr hch
        by_cases hkR : (k : Int) < R
        · have bk : decide ((k : Int) < R) = true := decide_eq_true hkR
          by_cases hl0 : liv.length = 0
          · have bl : decide ((0 : Int) < (liv.length : Int)) = false := decide_eq_false (by omega)
            have bl2 : decide (0 < liv.length) = false := decide_eq_false (by omega)
            have eliv : liv = [] := List.eq_nil_of_length_eq_zero hl0
            have HE : Hid _ := eliv
            clear eliv hl0
            go_wp2_with fail
            go_ret
            have hz := hsr2.out
            rw [HE.out] at hz
            obtain ⟨S9, P9, z1, z2, z3, z4⟩ := SetR.none hz
            exact ⟨rfl, ⟨S9, P9, z1, z2, z3.trans HNN.out, z4⟩, HFIN.out⟩
          · have bl : decide ((0 : Int) < (liv.length : Int)) = true := decide_eq_true (by omega)
            have bl2 : decide (0 < liv.length) = true := decide_eq_true (by omega)
            have bl3 : 0 < liv.length := by omega
            obtain ⟨l0, hl0n, h0, hst⟩ := SetR.round hsr2.out
            have H0 : Hid _ := h0
            have HST : Hid (SetSt w2 B hb c n liv l0 []) := hst
            have hpick : Hid (∀ x : Int, -9223372036854775808 ≤ x → ∀ W, Calls Try.prog 16 #[I x, I liv.length] W fun e w' => e = .returned (I (pickV x liv.length)) ∧ w' = W) := fun x hx W => pick_f x hx liv.length (by omega) (by omega) W
            have hp40 : Hid (∀ x : Int, -9223372036854775808 ≤ x → ∀ W, Calls Try.prog 16 #[I x, .int .i64 1099511627776] W fun e w' => e = .returned (I (pickV x 1099511627776)) ∧ w' = W) := fun x hx W => pick_f x hx 1099511627776 (by omega) (by omega) W
            have hp5 : Hid (∀ x : Int, -9223372036854775808 ≤ x → ∀ W, Calls Try.prog 16 #[I x, .int .i64 5] W fun e w' => e = .returned (I (pickV x 5)) ∧ w' = W) := fun x hx W => pick_f x hx 5 (by omega) (by omega) W
            clear hst h0 hsr2
            go_upto_if 50 with fail
            go_cut [9] (fun s9 wx => ∃ xv : Int, s9 = I xv ∧ -9223372036854775808 ≤ xv ∧ wx = w2)
            case first =>
              by_cases hm0 : m = 0
              · have bm : decide ((0 : Int) < (m : Int)) = false := decide_eq_false (by omega)
                go_wp2_with fail
                go_meet
                exact ⟨0, rfl, by omega, rfl⟩
              · have bm : decide ((0 : Int) < (m : Int)) = true := decide_eq_true (by omega)
                have hkm : k % m < m := Nat.mod_lt _ (by omega)
                obtain ⟨fx, b, off, rfl, lb, lw, cb⟩ := HPP.out (k % m) hkm
                have cb2 : w2.cell? ⟨b, off + k % m, none⟩ = some (I (pf (k % m))) := (HFIN.out.cell (p := ⟨b, off + k % m, none⟩) lb).trans cb
                generalize pf (k % m) = xv at *
                have bm0 : ((m : Int) == 0) = false := by rw [beq_eq_false_iff_ne]; omega
                have hm1 : 0 ≤ (k : Int) % (m : Int) := Int.emod_nonneg _ (by omega)
                have hm2 : (k : Int) % (m : Int) < (m : Int) := Int.emod_lt_of_pos _ (by omega)
                have bm2 : decide (0 < m) = true := decide_eq_true (by omega)
                go_wp2_with fail
                go_meet
                exact ⟨xv, rfl, fx, rfl⟩
            case rest =>
              obtain ⟨xv, rfl, hxv, rfl⟩ := hcut
              have hpi := hpick.out xv hxv
              have hpL := pickV_lt xv liv.length (by omega)
              have hp4 := hp40.out xv hxv
              have hp55 := hp5.out xv hxv
              generalize pickV xv liv.length = f at *
              generalize pickV xv 1099511627776 = r40 at *
              generalize pickV xv 5 = r5 at *
              replace hpi : Hid _ := hpi
              replace hp4 : Hid _ := hp4
              replace hp55 : Hid _ := hp55
              clear hpick hp40 hp5 HPP HKC HS1
              go_wp2_with fail
              refine Calls.mono (hpi.out _) ?_
              rintro e w3 ⟨rfl, rfl⟩
              go_wp2_with fail
              go_loopw [11, 12, 13, 14] (fun ii _ _ _ wq => ∃ i : Nat, i ≤ liv.length + 1 ∧ ii = .int .i64 i ∧ ∃ dn, Hid (SetSt wq B hb c n liv l0 dn) ∧ Hid (MetBy liv dn f (decide (r40 % 3 ≠ 1)) i) ∧ Hid (ChgT B KS w1 wq)) (fun ii _ _ _ _ => liv.length + 1 - (intOf ii).toNat)
              case atStart => exact ⟨0, Nat.zero_le _, rfl, [], HST.out, fun t ht => absurd ht (Nat.not_lt_zero _), hch2.out⟩
              case round =>
                obtain ⟨i, hi, rfl, dn, hst, hmet, hch⟩ := hrel
                by_cases hil : i ≤ liv.length
                · have bi : decide ((i : Int) ≤ (liv.length : Int)) = true := decide_eq_true (by omega)
                  have hcm := ((hch.out.row HOW.out (by decide)))
                  obtain ⟨al', cl', el', _, _, _, HC⟩ := row_cells hcm
                  simp only [Value.slice.injEq, true_and] at el'
                  obtain ⟨rfl, rfl⟩ := el'
                  have hup : (f + i) % liv.length < liv.length := Nat.mod_lt _ (by omega)
                  have hdn : (f + liv.length - i) % liv.length < liv.length := Nat.mod_lt _ (by omega)
                  have rd : ∀ t, (ht : t < liv.length) → ∃ g, al = some ⟨g, 0, none⟩ ∧ wr.cell? ⟨g, t, none⟩ = some (I ((liv[t] : Nat) : Int)) ∧ liv[t] < n := by
                    intro t ht
                    obtain ⟨g, e, _, cg⟩ := HC t (by simpa [natI] using ht)
                    refine ⟨g, e, ?_, HLT.out _ (List.getElem_mem _)⟩
                    rw [cg]
                    simp [natI]
                  obtain ⟨g, rfl, cu, nu⟩ := rd _ hup
                  obtain ⟨g', eg, cd, nd⟩ := rd _ hdn
                  simp only [Option.some.injEq, Addr.mk.injEq, and_true] at eg
                  subst eg
                  have lgu := cell_lt cu
                  have HU : Hid (liv[(f + i) % liv.length]? = some liv[(f + i) % liv.length]) := List.getElem?_eq_getElem hup
                  have HD : Hid (liv[(f + liv.length - i) % liv.length]? = some liv[(f + liv.length - i) % liv.length]) := List.getElem?_eq_getElem hdn
                  generalize liv[(f + i) % liv.length] = xu at *
                  generalize liv[(f + liv.length - i) % liv.length] = xd at *
                  clear rd HC hcm
                  have m1 : 0 ≤ ((f : Int) + (i : Int)) % (liv.length : Int) := Int.emod_nonneg _ (by omega)
                  have m2 : ((f : Int) + (i : Int)) % (liv.length : Int) < (liv.length : Int) := Int.emod_lt_of_pos _ (by omega)
                  have bl0 : ((liv.length : Int) == 0) = false := by rw [beq_eq_false_iff_ne]; omega
                  go_wp2_with fail
                  refine Calls.mono (hp4.out _) ?_
                  rintro e w5 ⟨rfl, rfl⟩
                  have m3 : 0 ≤ ((f : Int) + (liv.length : Int) - (i : Int)) % (liv.length : Int) := Int.emod_nonneg _ (by omega)
                  have m4 : ((f : Int) + (liv.length : Int) - (i : Int)) % (liv.length : Int) < (liv.length : Int) := Int.emod_lt_of_pos _ (by omega)
                  go_upto_if 80 with fail
                  go_cut [12] (fun s12 wx => ∃ x : Nat, s12 = I x ∧ x < n ∧ Hid (liv[if decide (r40 % 3 ≠ 1) then (f + i) % liv.length else (f + liv.length - i) % liv.length]? = some x) ∧ wx = w5)
                  case first =>
                    by_cases e3 : r40 % 3 = 1
                    · have b3 : ((r40 : Int) % 3 == 1) = true := by rw [beq_iff_eq]; omega
                      go_wp2_with fail
                      go_meet
                      exact ⟨xd, rfl, nd, by show _ = _; simp [e3]; exact HD.out, rfl⟩
                    · have b3 : ((r40 : Int) % 3 == 1) = false := by rw [beq_eq_false_iff_ne]; omega
                      go_wp2_with fail
                      go_meet
                      exact ⟨xu, rfl, nu, by show _ = _; simp [e3]; exact HU.out, rfl⟩
                  case rest =>
                    clear cu nu HU cd nd HD m1 m2 m3 m4 lgu hp4 hup hdn
                    obtain ⟨x, rfl, hxn, hxl, rfl⟩ := hcut
                    obtain ⟨ph, nd, vl, hat, hsk, hstp⟩ := SetSt.at hst.out x hxn
                    have hat0 := hat _ (Below.refl _ _)
                    replace hat0 : Hid _ := hat0
                    replace hsk : Hid _ := hsk
                    replace hstp : Hid _ := hstp
                    clear hat
                    go_wp2_with fail
                    refine Calls.mono hat0.out ?_
                    rintro e w6 ⟨rfl, hb6⟩
                    have hb7 : Below wc.heap.size wc (w6.alloc (.cells #[I ph, I nd, I vl] 84)) := hb6.alloc hb6.size _
                    clear hat0 hb6
                    by_cases e20 : ph = 20
                    · have hs9 : Hid (SetSt (w6.alloc (.cells #[I ph, I nd, I vl] 84)) B hb c n liv l0 (x :: dn)) := SetSt.below (hsk.out e20) hb7
                      have hc9 : Hid (ChgT B KS w1 (w6.alloc (.cells #[I ph, I nd, I vl] 84))) := hch.out.trans (ChgT.of_below hb7)
                      subst e20
                      go_wp2_with fail
                      go_roundw
                      case rel => exact ⟨i + 1, by omega, by go_num, x :: dn, hs9.out, MetBy.more hmet.out x (fun _ => hxl.out), hc9.out⟩
                      case measure => simp [intOf]; omega
                    · have b20 : (ph == 20) = false := by rw [beq_eq_false_iff_ne]; exact e20
                      have hs9 : Hid (SetSt (w6.alloc (.cells #[I ph, I nd, I vl] 84)) B hb c n liv l0 dn) := SetSt.below hst.out hb7
                      have hc9 : Hid (ChgT B KS w1 (w6.alloc (.cells #[I ph, I nd, I vl] 84))) := hch.out.trans (ChgT.of_below hb7)
                      have hcl : Hid (∀ draw : Int, Calls Try.prog 43 #[.pointer (some ⟨hb, 0, none⟩), I x, I draw] (w6.alloc (.cells #[I ph, I nd, I vl] 84)) fun e w' => e = .returned (.bool true) ∧ SetSt w' B hb c n liv l0 (x :: dn) ∧ ChgT B KS (w6.alloc (.cells #[I ph, I nd, I vl] 84)) w') := fun draw => hstp.out e20 _ hb7 draw
                      clear hsk hstp e20
                      by_cases ei : i = liv.length
                      · have be : ((i : Int) == (liv.length : Int)) = true := by rw [beq_iff_eq]; omega
                        have HEI : Hid (i = liv.length) := ei
                        clear ei
                        go_wp2_with fail
                        refine Calls.mono (hp55.out _) ?_
                        rintro e w7 ⟨rfl, rfl⟩
                        by_cases e5 : r5 = 2
                        · have b5 : ((r5 : Int) != 2) = false := by rw [bne_eq_false_iff_eq]; omega
                          go_wp2_with fail
                          refine Calls.mono (hcl.out _) ?_
                          rintro e w8 ⟨rfl, hs8, hc8⟩
                          have HS8 : Hid (SetSt w8 B hb c n liv l0 (x :: dn)) := hs8
                          have HC8 : Hid (ChgT B KS w1 w8) := hc9.out.trans hc8
                          clear hcl hs8 hc8 hs9 hc9
                          go_wp2_with fail
                          go_roundw
                          case rel => exact ⟨i + 1, by omega, by go_num, x :: dn, HS8.out, MetBy.more hmet.out x (fun _ => hxl.out), HC8.out⟩
                          case measure => simp [intOf]; omega
                        · have b5 : ((r5 : Int) != 2) = true := by rw [bne_iff_ne]; omega
                          have HMS : Hid (MetBy liv dn f (decide (r40 % 3 ≠ 1)) (i + 1)) := MetBy.same hmet.out (by have := HEI.out; omega)
                          go_wp2_with fail
                          go_roundw
                          case rel => exact ⟨i + 1, by omega, by go_num, dn, hs9.out, HMS.out, hc9.out⟩
                          case measure => simp [intOf]; omega
                      · have be : ((i : Int) == (liv.length : Int)) = false := by rw [beq_eq_false_iff_ne]; omega
                        go_wp2_with fail
                        refine Calls.mono (hcl.out _) ?_
                        rintro e w8 ⟨rfl, hs8, hc8⟩
                        have HS8 : Hid (SetSt w8 B hb c n liv l0 (x :: dn)) := hs8
                        have HC8 : Hid (ChgT B KS w1 w8) := hc9.out.trans hc8
                        clear hcl hs8 hc8 hs9 hc9
                        go_wp2_with fail
                        go_roundw
                        case rel => exact ⟨i + 1, by omega, by go_num, x :: dn, HS8.out, MetBy.more hmet.out x (fun _ => hxl.out), HC8.out⟩
                        case measure => simp [intOf]; omega
                · have bi : decide ((i : Int) ≤ (liv.length : Int)) = false := decide_eq_false (by omega)
                  have hdone : Hid (SetR wr B hb c n liv (k + 1)) := SetSt.done hst.out H0.out (MetBy.all hpL (fun t ht htl => hmet.out t (by omega) htl))
                  clear hst hmet
                  go_wp2_with fail
                  go_roundw
                  case rel => exact ⟨k + 1, by push_cast; omega, by go_num, hdone.out, hch.out⟩
                  case measure => simp [intOf]; omega
        · have bk : decide ((k : Int) < R) = false := decide_eq_false hkR
          go_wp2_with fail
          go_ret
          obtain ⟨S9, P9, z1, z2, z3, z4⟩ := SetR.all hsr2.out (by rw [hRR.out]; omega)
          exact ⟨rfl, ⟨S9, P9, z1, z2, z3.trans HNN.out, z4⟩, HFIN.out⟩

end Go.Proofs.Ytjnmpejcegmkhaa
