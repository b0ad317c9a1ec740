/- Contracts of package prismkeep's holds and slots. No statement of the seat is proved here. -/
import Derived.Test.YtjnmpejcegmkhaaKeep3
import Derived.Test.YtjnmpejcegmkhaaKeep7
import Derived.Test.YtjnmpejcegmkhaaRefB
import Derived.Deep.QuietTactic
import Derived.BigQuiet
import Derived.Deep.DeepCutAuto
namespace Go.Proofs.Ytjnmpejcegmkhaa
open Go.RowKit

theorem among5 (ph : Int) : amongTo ph [0, 15, 16, 17, 18] = decide (ph = 0 ∨ ph = 15 ∨ ph = 16 ∨ ph = 17 ∨ ph = 18) := by
  unfold amongTo
  rw [Bool.eq_iff_iff]
  simp only [List.any_cons, List.any_nil, Bool.or_false, Bool.or_eq_true, beq_iff_eq, decide_eq_true_eq]
  omega

set_option maxHeartbeats 4000000 in
set_option maxRecDepth 100000 in
theorem kholds_c (v : Nat) (p : Pr) (hp : NodeOk p) (vl : Int) (w : World) :
    Calls Try.prog 48 #[.agg #[I p.phase, I p.node, I vl], I v] w fun e w' => e = .returned (.bool (holdsP v p)) ∧ Below w.heap.size w w' := by
  obtain ⟨hn, h64⟩ := hp
  have hba : Below w.heap.size w (w.alloc (.cells #[I p.phase, I p.node, I vl] 84)) := (Below.refl _ _).alloc (Nat.le_refl _) _
  by_cases h20 : p.phase = 20
  · have e : holdsP v p = false := by simp [holdsP, h20]
    rw [e, h20]
    generalize p.node = nd at *
    rw [h20] at hba
    clear e h20 hn h64
    go_enter Try.func48, Try.ntmps48
    go_wp2_with fail
    go_ret
    exact ⟨rfl, hba⟩
  · have e : holdsP v p = decide (climb 6 (atP p) v = v) := by simp [holdsP, h20]
    rw [e]
    have b20 : (p.phase == 20) = false := by simp [h20]
    have HA : Hid ((amongTo p.phase [0, 15, 16, 17, 18] = true → atP p = p.node.toNat / 2) ∧ (amongTo p.phase [0, 15, 16, 17, 18] = false → atP p = p.node.toNat)) := by
      rw [among5]
      unfold atP
      refine ⟨fun a => ?_, fun a => ?_⟩
      · rw [if_pos (of_decide_eq_true a)]
      · rw [if_neg (of_decide_eq_false a)]
    have hA64 : atP p < 64 := by unfold atP; split <;> omega
    have ham := fun (W : World) (b : Nat) (hW : W.heap[b]? = some (.cells (([0, 15, 16, 17, 18] : List Int).map I).toArray 3 (0, 0))) => among_c p.phase [0, 15, 16, 17, 18] b W hW (by decide)
    generalize hnn : p.node.toNat = nn at *
    rw [hn] at hba ⊢
    generalize amongTo p.phase [0, 15, 16, 17, 18] = am at *
    generalize atP p = a0 at *
    generalize p.phase = ph at *
    generalize p.node = nd at *
    replace ham : Hid _ := ham
    clear hn hnn e h20
    have noa : (w.alloc (.cells #[I ph, I nn, I vl] 84)).heap[w.heap.size]? = some (.cells #[I ph, I nn, I vl] 84 (0, 0)) := nb_alloc _ _ _
    have nob := nb_alloc (w.alloc (.cells #[I ph, I nn, I vl] 84)) (([0, 15, 16, 17, 18] : List Int).map I).toArray 3
    have hbb := hba.alloc (Nat.le_trans (Nat.le_refl _) hba.size) (.cells (([0, 15, 16, 17, 18] : List Int).map I).toArray 3)
    have es : (w.alloc (.cells #[I ph, I nn, I vl] 84)).heap.size = w.heap.size + 1 := by simp
    rw [es] at nob
    cases am
    · have ea := HA.out.2 rfl
      subst ea
      clear HA
      go_enter Try.func48, Try.ntmps48
      go_wp2_with fail
      refine Calls.mono (ham.out _ _ nob) ?_
      rintro e w1 ⟨rfl, rfl⟩
      clear ham
      go_wp2_with fail
      go_loop [5] (fun i => ∃ f aa : Nat, aa < 2 ^ f ∧ aa < 64 ∧ Hid (climb f aa v = climb 6 a0 v) ∧ i = .int .i64 aa) (fun i => (intOf i).toNat)
      case atStart => exact ⟨6, a0, hA64, hA64, rfl, rfl⟩
      case round =>
        obtain ⟨f, aa, hf, h64, hc, rfl⟩ := hrel
        by_cases hgt : v < aa
        · cases f with
          | zero => exfalso; simp at hf; omega
          | succ f =>
            have HC : Hid (climb f (aa / 2) v = climb 6 a0 v) := by have := hc.out; simp only [climb, hgt, if_true] at this; exact this
            clear hc
            have hf2 : aa / 2 < 2 ^ f := by rw [Nat.pow_succ] at hf; omega
            go_wp2
            go_round
            case rel => exact ⟨f, aa / 2, hf2, by omega, HC, by go_num⟩
            case measure => simp [intOf]; omega
        · have HC : Hid (climb 6 a0 v = aa) := by have := hc.out; rw [climb_stop _ _ _ hgt] at this; exact this.symm
          clear hc
          go_wp2
          go_ret
          exact ⟨ret_bool (by rw [HC.out]; exact beq_nat _ _), hbb⟩
    · have ea := HA.out.1 rfl
      replace ea : Hid (a0 = nn / 2) := ea
      clear HA
      go_enter Try.func48, Try.ntmps48
      go_wp2_with fail
      refine Calls.mono (ham.out _ _ nob) ?_
      rintro e w1 ⟨rfl, rfl⟩
      clear ham
      go_wp2_with fail
      go_loop [5] (fun i => ∃ f aa : Nat, aa < 2 ^ f ∧ aa < 64 ∧ Hid (climb f aa v = climb 6 a0 v) ∧ i = .int .i64 aa) (fun i => (intOf i).toNat)
      case atStart => exact ⟨6, a0, hA64, hA64, rfl, int_of (by have := ea.out; omega)⟩
      case round =>
        obtain ⟨f, aa, hf, h64, hc, rfl⟩ := hrel
        by_cases hgt : v < aa
        · cases f with
          | zero => exfalso; simp at hf; omega
          | succ f =>
            have HC : Hid (climb f (aa / 2) v = climb 6 a0 v) := by have := hc.out; simp only [climb, hgt, if_true] at this; exact this
            clear hc
            have hf2 : aa / 2 < 2 ^ f := by rw [Nat.pow_succ] at hf; omega
            go_wp2
            go_round
            case rel => exact ⟨f, aa / 2, hf2, by omega, HC, by go_num⟩
            case measure => simp [intOf]; omega
        · have HC : Hid (climb 6 a0 v = aa) := by have := hc.out; rw [climb_stop _ _ _ hgt] at this; exact this.symm
          clear hc
          go_wp2
          go_ret
          exact ⟨ret_bool (by rw [HC.out]; exact beq_nat _ _), hbb⟩

def cntI (p : Int) : List Int → Nat
  | [] => 0
  | x :: r => (if x = p then 1 else 0) + cntI p r
theorem cntI_app (p : Int) (a b : List Int) : cntI p (a ++ b) = cntI p a + cntI p b := by
  induction a with
  | nil => simp [cntI]
  | cons x a ih => simp only [List.cons_append, cntI, ih]; omega

structure SlotsOk (W : Nat) (ps : List (Nat × Pr)) (d : ND) : Prop where
  inner : d.inner = true → d.waiting.length = W ∧ 1 ≤ d.width ∧ d.width ≤ W ∧ 0 ≤ d.toggle ∧ d.toggle ≤ 1
  cnt : d.inner = true → ∀ p, (hp : p < ps.length) → cntI p d.waiting = if (ps[p]).2.node = d.num ∧ ((ps[p]).2.phase = 6 ∨ (ps[p]).2.phase = 7) then 1 else 0
  rng : d.inner = true → ∀ i, (hi : i < d.waiting.length) → -1 ≤ d.waiting[i] ∧ d.waiting[i] < (ps.length : Int)
  leaf : d.inner = false → d.waiting = []


theorem cntI_le (p : Int) : ∀ l : List Int, cntI p l ≤ l.length
  | [] => by simp [cntI]
  | x :: r => by
    have := cntI_le p r
    simp only [cntI, List.length_cons]
    split <;> omega
theorem KRep.width {w : World} {B hb : Nat} {P : PLay} {ops : List Op3} {went : List Bool} (h : KRep w B hb P ops went) : w.cell? ⟨hb, 5, none⟩ = some (I P.c.width) := by
  obtain ⟨ov, wv, a, b, _⟩ := h.blk
  rw [(nb_facts a).1 5]
  rfl

set_option maxHeartbeats 8000000 in
set_option maxRecDepth 100000 in
theorem kslots_c {w : World} {B hb : Nat} {P : PLay} {ops : List Op3} {went : List Bool} (h : KRep w B hb P ops went) (ps : List (Nat × Pr)) (hps : P.procs.length = ps.length) (hnp : ps.length ≤ 256)
    (htd : ∀ p, (hp : p < ps.length) → toldP P p = ((ps[p]).2.phase, (ps[p]).2.node, (ps[p]).2.val)) (W : Nat) (hW : P.c.width = (W : Int)) (hW4 : W ≤ 4) (d : ND) (wv iv : Value) (b m : Nat)
    (hrow : w.ownsRow b 3 1 wv d.waiting.length (d.waiting.map I)) (hiv : w.ownsRow b 3 1 iv m (d.items.map I)) (hs : SlotsOk W ps d) :
    Calls Try.prog 49 #[.pointer (some ⟨hb, 0, none⟩), .agg #[I d.num, I d.depth, I d.rank, .bool d.inner, .bool d.shut, I d.inside, I d.toggle, I d.width, wv, I d.puts, I d.gets, iv]] w fun e w' => e = .returned (.bool true) ∧ Below w.heap.size w w' := by
  have hat := fun W (hw : Below w.heap.size w W) n => kat_c (h.below hw) n
  obtain ⟨_, _, _, ao9, cap9, c9, q1, q2, q3⟩ := h.conf
  have c5 := h.width
  rw [hW] at c5
  have hol : ops.length = ps.length := h.len.trans hps
  have lh := cell_lt c9
  obtain ⟨aw, cw, rfl, w1, w2, w3, HWt⟩ := row_cells hrow
  obtain ⟨ai, ci, rfl, _⟩ := row_cells hiv
  rw [hol] at c9 q1 q2
  unfold maxLen at w2 q2 q3
  obtain ⟨num, dep, rk, inner, sh, ins, tog, wid, wt, pu, ge, its⟩ := d
  simp only at *
  clear h hrow hiv hW
  replace hat : Hid _ := hat
  have hba : Below w.heap.size w (w.alloc (.cells #[I num, I dep, I rk, .bool inner, .bool sh, I ins, I tog, I wid, .slice aw wt.length cw, I pu, I ge, .slice ai m ci] 49)) := (Below.refl _ _).alloc (Nat.le_refl _) _
  cases inner
  · have e := hs.leaf rfl
    simp only at e
    subst e
    clear hs HWt htd
    go_enter Try.func49, Try.ntmps49
    go_wp2_with fail
    go_ret
    exact ⟨rfl, hba⟩
  · obtain ⟨s1, s2, s3, s4, s5⟩ := hs.inner rfl
    simp only at s1 s2 s3 s4 s5
    subst s1
    have HC : Hid (∀ p, (hp : p < ps.length) → cntI p wt = if (ps[p]).2.node = num ∧ ((ps[p]).2.phase = 6 ∨ (ps[p]).2.phase = 7) then 1 else 0) := hs.cnt rfl
    have HR : Hid (∀ i, (hi : i < wt.length) → -1 ≤ wt[i] ∧ wt[i] < (ps.length : Int)) := hs.rng rfl
    have HTD : Hid _ := htd
    have HWW : Hid _ := HWt
    clear hs htd HWt
    have hnb : (w.alloc (.cells #[I num, I dep, I rk, .bool true, .bool sh, I ins, I tog, I wid, .slice aw wt.length cw, I pu, I ge, .slice ai m ci] 49)).heap[w.heap.size]? = some (.cells #[I num, I dep, I rk, .bool true, .bool sh, I ins, I tog, I wid, .slice aw wt.length cw, I pu, I ge, .slice ai m ci] 49 (0, 0)) := nb_alloc _ _ _
    have c5a := (hba.cell (p := ⟨hb, 5, none⟩) lh).trans c5
    have lha : hb < (w.alloc (.cells #[I num, I dep, I rk, .bool true, .bool sh, I ins, I tog, I wid, .slice aw wt.length cw, I pu, I ge, .slice ai m ci] 49)).heap.size := Nat.lt_of_lt_of_le lh hba.size
    have lna : w.heap.size < (w.alloc (.cells #[I num, I dep, I rk, .bool true, .bool sh, I ins, I tog, I wid, .slice aw wt.length cw, I pu, I ge, .slice ai m ci] 49)).heap.size := (Array.getElem?_eq_some_iff.1 hnb).1
    have b0 : ((wt.length : Int) != (wt.length : Int)) = false := by simp
    have b1 : decide (wid < 1) = false := decide_eq_false (by omega)
    have b2 : decide ((wt.length : Int) < wid) = false := decide_eq_false (by omega)
    have b3 : decide (tog < 0) = false := decide_eq_false (by omega)
    have b4 : decide (1 < tog) = false := decide_eq_false (by omega)
    go_enter Try.func49, Try.ntmps49
    generalize hw0 : w.alloc (.cells #[I num, I dep, I rk, .bool true, .bool sh, I ins, I tog, I wid, .slice aw wt.length cw, I pu, I ge, .slice ai m ci] 49) = w0 at *
    obtain ⟨nx, _⟩ := nb_facts hnb
    go_wp2_with fail
    go_quiet (fail)
    have HBA : Hid _ := hba
    have lw0 : w.heap.size + 1 = w0.heap.size := by rw [← hw0]; simp
    clear hba hw0 nx c5 c5a b0 b1 b2 b3 b4 s2 s3 s4 s5
    go_wp2_with fail
    go_loopw [5, 6, 7, 8, 9] (fun pp _ _ _ _ wr => ∃ q : Nat, q ≤ ps.length ∧ pp = .int .i64 q ∧ Below w0.heap.size w0 wr) (fun pp _ _ _ _ _ => ps.length - (intOf pp).toNat)
    case atStart => exact ⟨0, Nat.zero_le _, rfl, Below.drewN' (Below.refl _ _) _⟩
    case round =>
      obtain ⟨q, hq, rfl, hbr⟩ := hrel
      have hbw : Below w.heap.size w _ := HBA.out.trans (hbr.mono (by omega))
      have d9 := (hbw.cell (p := ⟨hb, 9, none⟩) lh).trans c9
      have ld := cell_lt d9
      by_cases hlt : q < ps.length
      · have ha := hat.out _ hbw (q : Int)
        rw [HTD.out q hlt] at ha
        have hc := HC.out q hlt
        generalize (ps[q]).2.phase = ph at *
        generalize (ps[q]).2.node = nd at *
        generalize (ps[q]).2.val = vl at *
        replace ha : Hid _ := ha
        have HCC : Hid _ := hc
        clear hc
        have bq : decide ((q : Int) < (ps.length : Int)) = true := decide_eq_true (by omega)
        go_wp2_with fail
        refine Calls.mono ha.out ?_
        rintro e w1 ⟨rfl, hb1⟩
        have hb2 : Below w0.heap.size w0 w1 := hbr.trans (hb1.mono hbr.size)
        clear hb1 ha
        have hb3 : Below w0.heap.size w0 (w1.alloc (.cells #[I ph, I nd, I vl] 84)) := hb2.alloc hb2.size _
        have nbx : (w1.alloc (.cells #[I ph, I nd, I vl] 84)).heap[w1.heap.size]? = some (.cells #[I ph, I nd, I vl] 84 (0, 0)) := nb_alloc _ _ _
        have nbn := (hb3.block _ (by omega)).trans hnb
        obtain ⟨nx1, _⟩ := nb_facts nbx
        obtain ⟨nx2, _⟩ := nb_facts nbn
        have l1 := (Array.getElem?_eq_some_iff.1 nbx).1
        have l2 := (Array.getElem?_eq_some_iff.1 nbn).1
        have hbx : Below w.heap.size w (w1.alloc (.cells #[I ph, I nd, I vl] 84)) := HBA.out.trans (hb3.mono (by omega))
        clear nx1 nx2 l1 l2 nbn
        go_wp2_with fail
        go_loopw [7, 8] (fun kk ii wr2 => Below w0.heap.size w0 wr2 ∧ wr2.heap[w1.heap.size]? = some (.cells #[I ph, I nd, I vl] 84 (0, 0)) ∧ ∃ j : Nat, j ≤ wt.length ∧ kk = .int .i64 ((cntI q (wt.take j) : Nat) : Int) ∧ ii = .int .i64 j) (fun _ ii _ => wt.length - (intOf ii).toNat)
        case atStart => exact ⟨hb3, nbx, 0, Nat.zero_le _, rfl, rfl⟩
        case round =>
          clear hb3 nbx hbx
          obtain ⟨hb3, nbx, j, hj, rfl, rfl⟩ := hrel
          have hbx : Below w.heap.size w _ := HBA.out.trans (hb3.mono (by omega))
          have nbn := (hb3.block _ (by omega)).trans hnb
          obtain ⟨nx1, _⟩ := nb_facts nbx
          obtain ⟨nx2, _⟩ := nb_facts nbn
          have l1 := (Array.getElem?_eq_some_iff.1 nbx).1
          have l2 := (Array.getElem?_eq_some_iff.1 nbn).1
          have hcl := cntI_le (q : Int) (wt.take j)
          have hcl2 := List.length_take_le j wt
          by_cases hlj : j < wt.length
          · obtain ⟨g, rfl, lg, cg⟩ := HWW.out j hlj
            have cg2 := (hbx.cell (p := ⟨g, j, none⟩) lg).trans cg
            have HT : Hid (cntI q (wt.take (j + 1)) = cntI q (wt.take j) + if wt[j] = (q : Int) then 1 else 0) := by
              show _ = _
              rw [take_succ_get wt j hlj, cntI_app]
              simp [cntI]
            generalize wt[j] = y at *
            clear cg HCC HWW HC HR HTD hat HBA hbx
            by_cases ey : y = (q : Int)
            · have by' : (y == (q : Int)) = true := by rw [beq_iff_eq]; exact ey
              have HT2 : Hid (cntI q (wt.take (j + 1)) = cntI q (wt.take j) + 1) := by show _ = _; rw [HT.out, if_pos ey]
              clear HT ey
              go_wp2_with fail
              go_roundw
              case rel => exact ⟨hb3, nbx, j + 1, by omega, int_of (by rw [HT2.out]; omega), by go_num⟩
              case measure => simp [intOf]; omega
            · have by' : (y == (q : Int)) = false := by rw [beq_eq_false_iff_ne]; exact ey
              have HT2 : Hid (cntI q (wt.take (j + 1)) = cntI q (wt.take j)) := by show _ = _; rw [HT.out, if_neg ey]; rfl
              clear HT ey
              go_wp2_with fail
              go_roundw
              case rel => exact ⟨hb3, nbx, j + 1, by omega, int_of (by rw [HT2.out]), by go_num⟩
              case measure => simp [intOf]; omega
          · have ej : wt.take j = wt := List.take_of_length_le (by omega)
            rw [ej]
            have bj : decide ((j : Int) < (wt.length : Int)) = false := decide_eq_false (by omega)
            have hcc := HCC.out
            clear HCC HWW HC HR HTD hat HBA hbx ej hcl hcl2
            generalize cntI (q : Int) wt = cq at *
            by_cases e1 : nd = num
            · have b1 : (nd == num) = true := by rw [beq_iff_eq]; exact e1
              by_cases e6 : ph = 6
              · subst e6
                rw [if_pos ⟨e1, Or.inl rfl⟩] at hcc
                subst hcc
                clear e1
                go_wp2_with fail
                go_roundw
                case rel => exact ⟨q + 1, by omega, by go_num, hb3⟩
                case measure => simp [intOf]; omega
              · have b6 : (ph == 6) = false := by rw [beq_eq_false_iff_ne]; exact e6
                by_cases e7 : ph = 7
                · subst e7
                  rw [if_pos ⟨e1, Or.inr rfl⟩] at hcc
                  subst hcc
                  clear e1 e6
                  go_wp2_with fail
                  go_roundw
                  case rel => exact ⟨q + 1, by omega, by go_num, hb3⟩
                  case measure => simp [intOf]; omega
                · have b7 : (ph == 7) = false := by rw [beq_eq_false_iff_ne]; exact e7
                  rw [if_neg (by rintro ⟨_, x | x⟩; exact e6 x; exact e7 x)] at hcc
                  subst hcc
                  clear e1 e6 e7
                  go_wp2_with fail
                  go_roundw
                  case rel => exact ⟨q + 1, by omega, by go_num, hb3⟩
                  case measure => simp [intOf]; omega
            · have b1 : (nd == num) = false := by rw [beq_eq_false_iff_ne]; exact e1
              rw [if_neg (fun x => e1 x.1)] at hcc
              subst hcc
              clear e1
              go_wp2_with fail
              go_roundw
              case rel => exact ⟨q + 1, by omega, by go_num, hb3⟩
              case measure => simp [intOf]; omega
      · have bq : decide ((q : Int) < (ps.length : Int)) = false := decide_eq_false (by omega)
        clear HC HTD hat
        go_wp2_with fail
        go_loopw [10] (fun ii wr3 => ∃ j : Nat, j ≤ wt.length ∧ ii = .int .i64 j ∧ Below w0.heap.size w0 wr3) (fun ii _ => wt.length - (intOf ii).toNat)
        case atStart => exact ⟨0, Nat.zero_le _, rfl, hbr⟩
        case round =>
          obtain ⟨j, hj, rfl, hb3⟩ := hrel
          have hbx : Below w.heap.size w _ := HBA.out.trans (hb3.mono (by omega))
          have nbn := (hb3.block _ (by omega)).trans hnb
          obtain ⟨nx2, _⟩ := nb_facts nbn
          have l2 := (Array.getElem?_eq_some_iff.1 nbn).1
          have f9 := (hbx.cell (p := ⟨hb, 9, none⟩) lh).trans c9
          have lf := cell_lt f9
          by_cases hlj : j < wt.length
          · obtain ⟨g, rfl, lg, cg⟩ := HWW.out j hlj
            have cg2 := (hbx.cell (p := ⟨g, j, none⟩) lg).trans cg
            obtain ⟨r1, r2⟩ := HR.out j hlj
            generalize wt[j] = y at *
            have b1 : decide (y < -1) = false := decide_eq_false (by omega)
            have b2 : decide ((ps.length : Int) ≤ y) = false := decide_eq_false (by omega)
            have bj : decide ((j : Int) < (wt.length : Int)) = true := decide_eq_true (by omega)
            clear cg HWW HR r1 r2 hbx
            go_wp2_with fail
            go_quiet (fail)
            go_wp2_with fail
            go_roundw
            case rel => exact ⟨j + 1, by omega, by go_num, Below.drewN' hb3 _⟩
            case measure => simp [intOf]; omega
          · have bj : decide ((j : Int) < (wt.length : Int)) = false := decide_eq_false (by omega)
            clear HWW HR
            go_wp2_with fail
            go_ret
            exact ⟨rfl, hbx⟩

end Go.Proofs.Ytjnmpejcegmkhaa
