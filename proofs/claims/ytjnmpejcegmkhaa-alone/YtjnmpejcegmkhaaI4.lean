/- The contract of package prismkeep's alone. No statement of the seat is proved here. -/
import Derived.Test.YtjnmpejcegmkhaaInsPure
import Derived.Test.YtjnmpejcegmkhaaIns0
import Derived.Deep.DeepCutAuto
import Derived.Deep.QuietTactic
import Derived.BigQuiet
namespace Go.Proofs.Ytjnmpejcegmkhaa
open Go.RowKit

theorem Try.info84 : (Try.prog.info? 84).map (fun i => (i.zero, i.size, i.bytes)) = some (some (.agg #[.int .i64 0, .int .i64 0, .int .i64 0]), 3, 24) := by kernel_rfl

def toldC (y : Nat × Pr) : List Value := [I y.2.phase, I y.2.node, I y.2.val]
def toldCs (ps : Prs) : List Value := ps.flatMap toldC
theorem toldCs_take (ps : Prs) (k : Nat) (hk : k < ps.length) : toldCs (ps.take (k + 1)) = toldCs (ps.take k) ++ [I (ps[k]).2.phase, I (ps[k]).2.node, I (ps[k]).2.val] := by
  unfold toldCs
  rw [take_succ_get ps k hk, List.flatMap_append]
  rfl

theorem NodesRep.chg {w w' : World} {B b : Nat} {x : Value} {l : List (ND × Value × Value)} {T : List TypeId} (h : NodesRep w b x l) (hc : ChgT B T w w') (h1 : 49 ∉ T) (h2 : 3 ∉ T) : NodesRep w' b x l :=
  ⟨hc.row h.row h1, fun y hy => hc.row (h.waiting y hy) h2, fun y hy => hc.row (h.items y hy) h2⟩

set_option maxHeartbeats 16000000 in
set_option maxRecDepth 100000 in
theorem halone_c {w : World} {B hb : Nat} {c : Conf} {S : Gh} {P : PLay} (h : KSt w B hb c S P) (k a b : Int) :
    Calls Try.prog 24 #[.pointer (some ⟨hb, 0, none⟩), .agg #[I k, I a, I b]] w fun e w' => e = .returned (.bool true) ∧ (∃ S' P', KSt w' B hb c S' P') ∧ ChgT B KT w w' := by
  have hba : Below w.heap.size w (w.alloc (.cells #[I k, I a, I b] 55)) := (Below.refl _ _).alloc (Nat.le_refl _) _
  by_cases h9 : k = 9
  · subst h9
    replace h : Hid _ := h
    go_enter Try.func24, Try.ntmps24
    go_wp2_with fail
    go_ret
    exact ⟨rfl, ⟨S, P, h.out.below hba⟩, ChgT.of_below hba⟩
  · have b9 : (k == 9) = false := by simp [h9]
    have noa : (w.alloc (.cells #[I k, I a, I b] 55)).heap[w.heap.size]? = some (.cells #[I k, I a, I b] 55 (0, 0)) := nb_alloc _ _ _
    have es : (w.alloc (.cells #[I k, I a, I b] 55)).heap.size = w.heap.size + 1 := by simp
    have HAL := h.alone k a b h9
    obtain ⟨ao9, cap9, c9, q1, q2, q3⟩ := h.opsAt
    have HAT : Hid (∀ W, Below w.heap.size w W → ∀ p, (hp : p < S.L.procs.length) → Calls Try.prog 44 #[.pointer (some ⟨hb, 0, none⟩), I p] W fun e w' => e = .returned (.agg #[I (S.L.procs[p]).2.phase, I (S.L.procs[p]).2.node, I (S.L.procs[p]).2.val]) ∧ Below W.heap.size W w') := fun W hw p hp => h.at hw p hp
    have HND : Hid (∀ W, Below w.heap.size w W → Calls Try.prog 17 #[.pointer (some ⟨P.tb, 0, none⟩)] W fun e w' => ∃ x l, e = .returned x ∧ NodesRep w' W.heap.size x l ∧ l.map (fun y => y.1) = rnodes S.L ∧ Below W.heap.size W w') := fun W hw => h.nodes hw
    have HPL : Hid (∀ W, Below w.heap.size w W → Calls Try.prog 26 #[.pointer (some ⟨hb, 0, none⟩), .agg #[I k, I a, I b]] W fun e w' => e = .returned (.bool true) ∧ (∃ P', KSt w' B hb c (gplay c S k a b) P') ∧ ChgT B KT W w') := fun W hw => hplay_c (h.below hw) k a b
    have c0 := h.rep.t
    have l0 := cell_lt c0
    have HB : Hid (B ≤ w.heap.size) := h.hB
    unfold maxLen at q3
    replace HAL : Hid _ := HAL
    clear h
    generalize gplay c S k a b = S' at *
    generalize hw0 : w.alloc (.cells #[I k, I a, I b] 55) = w0 at *
    obtain ⟨i0, hi, hz0, hz1, hz2⟩ := info_parts Try.info84
    go_enter Try.func24, Try.ntmps24
    obtain ⟨nx0, _⟩ := nb_facts noa
    go_wp2_with fail
    go_loopw [5, 6, 7] (fun xx pp _ wr => ∃ q : Nat, q ≤ S.L.procs.length ∧ pp = .int .i64 q ∧ wr.ownsRow (w.heap.size + 1) 84 3 xx q (toldCs (S.L.procs.take q)) ∧ Below (w.heap.size + 1) w0 wr) (fun _ pp _ _ => S.L.procs.length - (intOf pp).toNat)
    case atStart => exact ⟨0, Nat.zero_le _, rfl, by simpa [toldCs] using World.ownsRow_nil _ _ _ _, Below.refl _ _⟩
    case round =>
      obtain ⟨q, hq, rfl, hown, hbr⟩ := hrel
      have hbw : Below w.heap.size w _ := hba.trans (hbr.mono (by omega))
      have d9 := (hbw.cell (p := ⟨hb, 9, none⟩) l0).trans c9
      have ld := cell_lt d9
      by_cases hlt : q < S.L.procs.length
      · have ha := HAT.out _ hbw q hlt
        have HTC := toldCs_take S.L.procs q hlt
        replace HTC : Hid _ := HTC
        generalize (S.L.procs[q]).2.phase = ph at *
        generalize (S.L.procs[q]).2.node = nd at *
        generalize (S.L.procs[q]).2.val = vl at *
        replace ha : Hid _ := ha
        have bq : decide ((q : Int) < (S.L.procs.length : Int)) = true := decide_eq_true (by omega)
        go_wp2_with fail
        refine Calls.mono ha.out ?_
        rintro e w1 ⟨rfl, hb1⟩
        have hown1 := ownsRow_below hown hb1 (Nat.le_refl _)
        have hb2 : Below (w.heap.size + 1) w0 w1 := hbr.trans (hb1.mono (by rw [← es]; exact hbr.size))
        have hsz := hb2.size
        clear hb1 hown ha
        go_wp2_with (at_builtin; refine wpList_append_own _ rfl _ _ 92 rfl (w.heap.size + 1) 84 i0 _ 3 24 Try.underlying92 hi hz0 hz1 hz2 rfl (by decide) _ _ _ rfl ((hown1.alloc _).alloc _) ⟨w1.heap.size + 1, 0, none⟩ 1 1 [I ph, I nd, I vl] rfl rfl ?c1 ?c2 ?c3 ?c4 ?c5 ?_)
        case c1 => exact cells_new_at (w1.alloc (.cells #[I ph, I nd, I vl] 84)) [I ph, I nd, I vl] 84 (w1.heap.size + 1) (by simp)
        case c2 =>
          intro u hu
          simp only [List.mem_cons, List.not_mem_nil, or_false] at hu
          rcases hu with h | h | h <;> subst h <;> rfl
        case c3 => unfold maxLen; omega
        case c4 => omega
        case c5 => simp; omega
        · intro x' w3 hown' hgrow _
          have hb4 : Below (w.heap.size + 1) w0 w3 := ((hb2.alloc (by omega) _).alloc (by simp; omega) _).grown hgrow (by simp; omega) (by
            intro j hj
            exact (hown1.lt j hj).1)
          clear hgrow hown1
          go_wp2_with fail
          go_roundw
          case rel => exact ⟨q + 1, by omega, by go_num, by rw [HTC.out]; exact hown', hb4⟩
          case measure => simp [intOf]; omega
      · have eq : q = S.L.procs.length := by omega
        subst eq
        rw [List.take_length] at hown
        have hnd := HND.out _ hbw
        replace hnd : Hid _ := hnd
        have d0 := (hbw.cell (p := ⟨hb, 0, none⟩) l0).trans c0
        have bq : decide ((S.L.procs.length : Int) < (S.L.procs.length : Int)) = false := decide_eq_false (by omega)
        have nbr := (hbr.block _ (by omega)).trans noa
        have lnr := (Array.getElem?_eq_some_iff.1 nbr).1
        obtain ⟨aw, cw, ew, _, _, _, _⟩ := ownsRow_cells hown
        subst ew
        have HOWN : Hid _ := hown
        clear HAT HND hown hi hz0 hz1 hz2 nx0
        go_wp2_with fail
        refine Calls.mono hnd.out ?_
        rintro e w1 ⟨x, l, rfl, hr, el, hb1⟩
        have hbw1 : Below w.heap.size w w1 := hbw.trans (hb1.mono hbw.size)
        have hpl := HPL.out _ hbw1
        have HO1 : Hid _ := ownsRow_below HOWN.out hb1 (Nat.le_refl _)
        have nb1 := (hb1.block _ lnr).trans nbr
        obtain ⟨aa, ca, ex, a1, a2, a3, _⟩ := ownsRow_cells hr.row
        subst ex
        have HR1 : Hid _ := hr
        have HEL : Hid _ := el
        obtain ⟨nx1, _⟩ := nb_facts nb1
        have ln1 := (Array.getElem?_eq_some_iff.1 nb1).1
        have HBW1 : Hid _ := hbw1
        replace hpl : Hid _ := hpl
        unfold maxLen at a2 a3
        clear hnd HOWN hr el HPL hbr hbw hb1 nbr d0 d9 ld
        go_wp2_with fail
        refine Calls.mono hpl.out ?_
        rintro e w2 ⟨rfl, ⟨P', hst'⟩, hc⟩
        have nb2 := hc.at nb1 (by decide)
        have HO2 := hc.row HO1.out (by decide)
        have HR2 : Hid _ := HR1.out.chg hc (by decide) (by decide)
        have HCC : Hid _ := (ChgT.of_below (B := B) (T := KT) HBW1.out).trans hc
        have f0 := hst'.rep.t
        have lh2 := cell_lt f0
        have HAT2 : Hid (∀ W, Below w2.heap.size w2 W → ∀ p, (hp : p < S'.L.procs.length) → Calls Try.prog 44 #[.pointer (some ⟨hb, 0, none⟩), I p] W fun e w' => e = .returned (.agg #[I (S'.L.procs[p]).2.phase, I (S'.L.procs[p]).2.node, I (S'.L.procs[p]).2.val]) ∧ Below W.heap.size W w') := fun W hw p hp => hst'.at hw p hp
        have HND2 : Hid (∀ W, Below w2.heap.size w2 W → Calls Try.prog 17 #[.pointer (some ⟨P'.tb, 0, none⟩)] W fun e w' => ∃ x l, e = .returned x ∧ NodesRep w' W.heap.size x l ∧ l.map (fun y => y.1) = rnodes S'.L ∧ Below W.heap.size W w') := fun W hw => hst'.nodes hw
        have HST : Hid _ := hst'
        have HWP : Hid (∀ p, (hp : p < S.L.procs.length) → ∃ g, aw = some ⟨g, 0, none⟩ ∧ g < w2.heap.size ∧ w2.cell? ⟨g, p * 3, none⟩ = some (I (S.L.procs[p]).2.phase) ∧ w2.cell? ⟨g, p * 3 + 1, none⟩ = some (I (S.L.procs[p]).2.node) ∧ w2.cell? ⟨g, p * 3 + 2, none⟩ = some (I (S.L.procs[p]).2.val)) := by
          intro p hp
          obtain ⟨ao', cap', e', _, _, _, hx⟩ := ownsRow_cells HO2
          simp only [Value.slice.injEq] at e'
          have fa : ∀ j, j < 3 → (toldCs S.L.procs)[p * 3 + j]? = (toldC S.L.procs[p])[j]? := fun j hj => flat_at toldC 3 (fun _ => rfl) S.L.procs p hp j hj
          obtain ⟨g, e0, _, g0⟩ := hx (p * 3 + 0) _ (fa 0 (by omega))
          obtain ⟨g', e1, _, g1⟩ := hx (p * 3 + 1) _ (fa 1 (by omega))
          obtain ⟨g'', e2, _, g2⟩ := hx (p * 3 + 2) _ (fa 2 (by omega))
          rw [e0] at e1 e2
          simp only [Option.some.injEq, Addr.mk.injEq, and_true] at e1 e2
          subst e1 e2
          exact ⟨g, by rw [e'.1]; exact e0, cell_lt g0, g0, g1, g2⟩
        obtain ⟨nx2, _⟩ := nb_facts nb2
        have ln2 := (Array.getElem?_eq_some_iff.1 nb2).1
        obtain ⟨aw', cw', ew', r1, r2, r3, _⟩ := ownsRow_cells HO2
        simp only [Value.slice.injEq, true_and] at ew'
        obtain ⟨rfl, rfl⟩ := ew'
        unfold maxLen at r2 r3
        clear hst' hc HO2 HO1 HR1 nb1 nx1 ln1 hpl HBW1
        by_cases hw : whoK S k a
        · obtain ⟨vv, hi9, en, v1, v32, hsame, hal⟩ := HAL.out.1 hw
          obtain ⟨e8, a0, an, a20⟩ := hw
          rw [phaseAt_eq S.L _ hi9] at a20
          obtain ⟨an', ea⟩ := Int.eq_ofNat_of_zero_le a0
          subst ea
          simp only [Int.toNat_natCast] at hi9 en a20 hsame
          obtain ⟨g9, eg9, lg9, z0, z1, _⟩ := HWP.out an' hi9
          rw [en] at z1
          obtain ⟨ph9, hph9⟩ : ∃ x, (S.L.procs[an']).2.phase = x := ⟨_, rfl⟩
          rw [hph9] at z0 a20
          have hsame2 : ∀ x, (S.L.procs[an']).2.phase = x → SameL (rnodes S.L) (rnodes S'.L) vv (decide (x = 17)) := fun x e => by subst e; exact hsame
          replace hsame := hsame2 ph9 hph9
          clear hph9 en hsame2
          have t8 : (k == 8) = true := by rw [beq_iff_eq]; exact e8
          have ta : decide ((0 : Int) ≤ (an' : Int)) = true := decide_eq_true (by omega)
          have tn : decide ((an' : Int) < (S.L.procs.length : Int)) = true := decide_eq_true an
          have t20 : (ph9 != 20) = true := by rw [bne_iff_ne]; exact a20
          subst eg9
          generalize hch : decide (ph9 = 17) = ch at *
          have t17 : (ph9 == 17) = ch := by rw [← hch]; rfl
          replace hsame : Hid _ := hsame
          replace hal : Hid _ := hal
          clear hch HAL e8 a20 h9
          go_wp2_with fail
          go_loopw [13, 14] (fun pp _ wr => ∃ q : Nat, q ≤ S.L.procs.length ∧ pp = .int .i64 q ∧ Below w2.heap.size w2 wr) (fun pp _ _ => S.L.procs.length - (intOf pp).toNat)
          case atStart => exact ⟨0, Nat.zero_le _, rfl, Below.refl _ _⟩
          case round =>
            obtain ⟨q, hq, rfl, hbq⟩ := hrel
            by_cases hlq : q < S.L.procs.length
            · have hlq' : q < S'.L.procs.length := Nat.lt_of_lt_of_le hlq hal.out.1
              have ha := HAT2.out _ hbq q hlq'
              obtain ⟨g, eg, lg, g0, g1, g2⟩ := HWP.out q hlq
              first | subst eg | (simp only [Option.some.injEq, Addr.mk.injEq, and_true] at eg; replace eg := eg.symm; subst eg)
              have k0 := (hbq.cell (p := ⟨g, q * 3, none⟩) lg).trans g0
              have k1 := (hbq.cell (p := ⟨g, q * 3 + 1, none⟩) lg).trans g1
              have k2 := (hbq.cell (p := ⟨g, q * 3 + 2, none⟩) lg).trans g2
              have hpq := hal.out.2 q hlq hlq'
              have bq : decide ((q : Int) < (S.L.procs.length : Int)) = true := decide_eq_true (by omega)
              by_cases eqw : (q : Int) = (an' : Int)
              · have bw : ((q : Int) != (an' : Int)) = false := by rw [bne_eq_false_iff_eq]; exact eqw
                generalize (S'.L.procs[q]).2.phase = ph' at *
                generalize (S'.L.procs[q]).2.node = nd' at *
                generalize (S'.L.procs[q]).2.val = vl' at *
                generalize (S.L.procs[q]).2.phase = ph at *
                generalize (S.L.procs[q]).2.node = nd at *
                generalize (S.L.procs[q]).2.val = vl at *
                replace ha : Hid _ := ha
                clear g0 g1 g2 hpq eqw
                go_wp2_with fail
                refine Calls.mono ha.out ?_
                rintro e w4 ⟨rfl, hb4⟩
                have hb5 : Below w2.heap.size w2 w4 := hbq.trans (hb4.mono hbq.size)
                have hb6 : Below w2.heap.size w2 (w4.alloc (.cells #[I ph', I nd', I vl'] 84)) := hb5.alloc hb5.size _
                clear ha hb4 hb5
                go_wp2_with fail
                go_quiet (fail)
                go_wp2_with fail
                go_roundw
                case rel => exact ⟨q + 1, by omega, by go_num, Below.drewN' hb6 _⟩
                case measure => simp [intOf]; omega
              · obtain ⟨x1, x2, x3⟩ := hpq eqw
                rw [x1, x2, x3] at ha
                have bw : ((q : Int) != (an' : Int)) = true := by rw [bne_iff_ne]; exact eqw
                generalize (S.L.procs[q]).2.phase = ph at *
                generalize (S.L.procs[q]).2.node = nd at *
                generalize (S.L.procs[q]).2.val = vl at *
                replace ha : Hid _ := ha
                clear hpq eqw x1 x2 x3
                go_wp2_with fail
                refine Calls.mono ha.out ?_
                rintro e w4 ⟨rfl, hb4⟩
                have hb5 : Below w2.heap.size w2 w4 := hbq.trans (hb4.mono hbq.size)
                have hb6 : Below w2.heap.size w2 (w4.alloc (.cells #[I ph, I nd, I vl] 84)) := hb5.alloc hb5.size _
                have j0 := (hb6.cell (p := ⟨g, q * 3, none⟩) lg).trans g0
                have j1 := (hb6.cell (p := ⟨g, q * 3 + 1, none⟩) lg).trans g1
                have j2 := (hb6.cell (p := ⟨g, q * 3 + 2, none⟩) lg).trans g2
                clear ha hb4 hb5 g0 g1 g2 k0 k1 k2
                go_wp2_with fail
                go_quiet (fail)
                go_wp2_with fail
                go_roundw
                case rel => exact ⟨q + 1, by omega, by go_num, Below.drewN' hb6 _⟩
                case measure => simp [intOf]; omega
            · have bq : decide ((q : Int) < (S.L.procs.length : Int)) = false := decide_eq_false (by omega)
              have m0 := (hbq.cell (p := ⟨hb, 0, none⟩) lh2).trans f0
              have lm := cell_lt m0
              have hn2 := HND2.out _ hbq
              replace hn2 : Hid _ := hn2
              clear HWP HAT2 HND2
              go_wp2_with fail
              refine Calls.mono hn2.out ?_
              rintro e w4 ⟨x4, l4, rfl, hr4, el4, hb4⟩
              have hb5 : Below w2.heap.size w2 w4 := hbq.trans (hb4.mono hbq.size)
              have hsh := (HST.out.below hb5).shaped hr4 el4
              have hr5 := HR2.out.below hb5 (Nat.le_refl _)
              have hsb : Hid (∀ W, Below w4.heap.size w4 W → Calls Try.prog 21 #[.slice aa l.length ca, x4, I vv, .bool ch] W fun e w' => e = .returned (.bool true) ∧ Below W.heap.size W w') :=
                fun W hW => ksameBut_c (hr5.below hW (Nat.le_refl _)) (hr4.below hW (Nat.le_refl _)) vv ch (by rw [HEL.out, el4]; exact hsame.out)
              obtain ⟨ab, cb, rfl, _, _, _, _⟩ := ownsRow_cells hr4.row
              replace hsh : Hid _ := hsh
              clear hn2 hr4 hr5 el4 hb4
              go_wp2_with fail
              refine Calls.mono hsh.out ?_
              rintro e w5 ⟨rfl, hb6⟩
              clear hsh
              go_wp2_with fail
              refine Calls.mono (hsb.out _ hb6) ?_
              rintro e w6 ⟨rfl, hb7⟩
              have hb8 : Below w2.heap.size w2 w6 := (hb5.trans (hb6.mono hb5.size)).trans (hb7.mono (hb5.trans (hb6.mono hb5.size)).size)
              clear hsb hb6 hb7
              go_wp2_with fail
              go_ret
              exact ⟨rfl, ⟨S', P', HST.out.below hb8⟩, HCC.out.trans (ChgT.of_below hb8)⟩
        · obtain ⟨hsame, hal⟩ := HAL.out.2 hw
          have hnw : (k == 8) = false ∨ ((k == 8) = true ∧ decide ((0 : Int) ≤ a) = false) ∨ ((k == 8) = true ∧ decide ((0 : Int) ≤ a) = true ∧ decide (a < (S.L.procs.length : Int)) = false) ∨
              ((k == 8) = true ∧ decide ((0 : Int) ≤ a) = true ∧ decide (a < (S.L.procs.length : Int)) = true ∧ ∃ an' : Nat, a = (an' : Int) ∧ an' < S.L.procs.length ∧ ∃ g, aw = some ⟨g, 0, none⟩ ∧ g < w2.heap.size ∧ w2.cell? ⟨g, an' * 3, none⟩ = some (I 20)) := by
            by_cases e8 : k = 8
            · have t8 : (k == 8) = true := by rw [beq_iff_eq]; exact e8
              by_cases a0 : 0 ≤ a
              · by_cases an : a < (S.L.procs.length : Int)
                · obtain ⟨an', ea⟩ := Int.eq_ofNat_of_zero_le a0
                  subst ea
                  have hi9 : an' < S.L.procs.length := by omega
                  obtain ⟨g9, eg9, lg9, z0, _⟩ := HWP.out an' hi9
                  have e20 : (S.L.procs[an']).2.phase = 20 := by
                    by_cases e : (S.L.procs[an']).2.phase = 20
                    · exact e
                    · exact absurd ⟨e8, a0, an, by rw [Int.toNat_natCast, phaseAt_eq S.L _ hi9]; exact e⟩ hw
                  rw [e20] at z0
                  exact Or.inr (Or.inr (Or.inr ⟨t8, decide_eq_true a0, decide_eq_true an, an', rfl, hi9, g9, eg9, lg9, z0⟩))
                · exact Or.inr (Or.inr (Or.inl ⟨t8, decide_eq_true a0, decide_eq_false an⟩))
              · exact Or.inr (Or.inl ⟨t8, decide_eq_false a0⟩)
            · exact Or.inl (by rw [beq_eq_false_iff_ne]; exact e8)
          replace hsame : Hid _ := hsame
          replace hal : Hid _ := hal
          clear HAL h9 hw
          rcases hnw with t8 | ⟨t8, ta⟩ | ⟨t8, ta, tn⟩ | ⟨t8, ta, tn, an', rfl, hi9, g9, rfl, lg9, z0⟩
          all_goals go_wp2_with fail
          all_goals
            go_loopw [13, 14] (fun pp _ wr => ∃ q : Nat, q ≤ S.L.procs.length ∧ pp = .int .i64 q ∧ Below w2.heap.size w2 wr) (fun pp _ _ => S.L.procs.length - (intOf pp).toNat)
            case atStart => exact ⟨0, Nat.zero_le _, rfl, Below.refl _ _⟩
            case round =>
              obtain ⟨q, hq, rfl, hbq⟩ := hrel
              by_cases hlq : q < S.L.procs.length
              · have hlq' : q < S'.L.procs.length := Nat.lt_of_lt_of_le hlq hal.out.1
                have ha := HAT2.out _ hbq q hlq'
                obtain ⟨g, eg, lg, g0, g1, g2⟩ := HWP.out q hlq
                first | subst eg | (simp only [Option.some.injEq, Addr.mk.injEq, and_true] at eg; replace eg := eg.symm; subst eg)
                have k0 := (hbq.cell (p := ⟨g, q * 3, none⟩) lg).trans g0
                have k1 := (hbq.cell (p := ⟨g, q * 3 + 1, none⟩) lg).trans g1
                have k2 := (hbq.cell (p := ⟨g, q * 3 + 2, none⟩) lg).trans g2
                have hpq := hal.out.2 q hlq hlq'
                have bq : decide ((q : Int) < (S.L.procs.length : Int)) = true := decide_eq_true (by omega)
                by_cases eqw : (q : Int) = (-1 : Int)
                · have bw : ((q : Int) != (-1 : Int)) = false := by rw [bne_eq_false_iff_eq]; exact eqw
                  generalize (S'.L.procs[q]).2.phase = ph' at *
                  generalize (S'.L.procs[q]).2.node = nd' at *
                  generalize (S'.L.procs[q]).2.val = vl' at *
                  generalize (S.L.procs[q]).2.phase = ph at *
                  generalize (S.L.procs[q]).2.node = nd at *
                  generalize (S.L.procs[q]).2.val = vl at *
                  replace ha : Hid _ := ha
                  clear g0 g1 g2 hpq eqw
                  go_wp2_with fail
                  refine Calls.mono ha.out ?_
                  rintro e w4 ⟨rfl, hb4⟩
                  have hb5 : Below w2.heap.size w2 w4 := hbq.trans (hb4.mono hbq.size)
                  have hb6 : Below w2.heap.size w2 (w4.alloc (.cells #[I ph', I nd', I vl'] 84)) := hb5.alloc hb5.size _
                  clear ha hb4 hb5
                  go_wp2_with fail
                  go_quiet (fail)
                  go_wp2_with fail
                  go_roundw
                  case rel => exact ⟨q + 1, by omega, by go_num, Below.drewN' hb6 _⟩
                  case measure => simp [intOf]; omega
                · obtain ⟨x1, x2, x3⟩ := hpq eqw
                  rw [x1, x2, x3] at ha
                  have bw : ((q : Int) != (-1 : Int)) = true := by rw [bne_iff_ne]; exact eqw
                  generalize (S.L.procs[q]).2.phase = ph at *
                  generalize (S.L.procs[q]).2.node = nd at *
                  generalize (S.L.procs[q]).2.val = vl at *
                  replace ha : Hid _ := ha
                  clear hpq eqw x1 x2 x3
                  go_wp2_with fail
                  refine Calls.mono ha.out ?_
                  rintro e w4 ⟨rfl, hb4⟩
                  have hb5 : Below w2.heap.size w2 w4 := hbq.trans (hb4.mono hbq.size)
                  have hb6 : Below w2.heap.size w2 (w4.alloc (.cells #[I ph, I nd, I vl] 84)) := hb5.alloc hb5.size _
                  have j0 := (hb6.cell (p := ⟨g, q * 3, none⟩) lg).trans g0
                  have j1 := (hb6.cell (p := ⟨g, q * 3 + 1, none⟩) lg).trans g1
                  have j2 := (hb6.cell (p := ⟨g, q * 3 + 2, none⟩) lg).trans g2
                  clear ha hb4 hb5 g0 g1 g2 k0 k1 k2
                  go_wp2_with fail
                  go_quiet (fail)
                  go_wp2_with fail
                  go_roundw
                  case rel => exact ⟨q + 1, by omega, by go_num, Below.drewN' hb6 _⟩
                  case measure => simp [intOf]; omega
              · have bq : decide ((q : Int) < (S.L.procs.length : Int)) = false := decide_eq_false (by omega)
                have m0 := (hbq.cell (p := ⟨hb, 0, none⟩) lh2).trans f0
                have lm := cell_lt m0
                have hn2 := HND2.out _ hbq
                replace hn2 : Hid _ := hn2
                clear HWP HAT2 HND2
                go_wp2_with fail
                refine Calls.mono hn2.out ?_
                rintro e w4 ⟨x4, l4, rfl, hr4, el4, hb4⟩
                have hb5 : Below w2.heap.size w2 w4 := hbq.trans (hb4.mono hbq.size)
                have hsh := (HST.out.below hb5).shaped hr4 el4
                have hr5 := HR2.out.below hb5 (Nat.le_refl _)
                have hsb : Hid (∀ W, Below w4.heap.size w4 W → Calls Try.prog 21 #[.slice aa l.length ca, x4, I 0, .bool false] W fun e w' => e = .returned (.bool true) ∧ Below W.heap.size W w') :=
                  fun W hW => ksameBut_c (hr5.below hW (Nat.le_refl _)) (hr4.below hW (Nat.le_refl _)) 0 false (by rw [HEL.out, el4]; exact hsame.out)
                obtain ⟨ab, cb, rfl, _, _, _, _⟩ := ownsRow_cells hr4.row
                replace hsh : Hid _ := hsh
                clear hn2 hr4 hr5 el4 hb4
                go_wp2_with fail
                refine Calls.mono hsh.out ?_
                rintro e w5 ⟨rfl, hb6⟩
                clear hsh
                go_wp2_with fail
                refine Calls.mono (hsb.out _ hb6) ?_
                rintro e w6 ⟨rfl, hb7⟩
                have hb8 : Below w2.heap.size w2 w6 := (hb5.trans (hb6.mono hb5.size)).trans (hb7.mono (hb5.trans (hb6.mono hb5.size)).size)
                clear hsb hb6 hb7
                go_wp2_with fail
                go_ret
                exact ⟨rfl, ⟨S', P', HST.out.below hb8⟩, HCC.out.trans (ChgT.of_below hb8)⟩

end Go.Proofs.Ytjnmpejcegmkhaa
