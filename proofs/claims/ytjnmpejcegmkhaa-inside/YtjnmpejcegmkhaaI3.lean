/- The contract of package prismkeep's inside. No statement of the seat is proved here. -/
import Derived.Test.YtjnmpejcegmkhaaI1
import Derived.Test.YtjnmpejcegmkhaaI2
import Derived.Test.YtjnmpejcegmkhaaH7
import Derived.Deep.RegionWith
namespace Go.Proofs.Ytjnmpejcegmkhaa
open Go.RowKit

theorem insideL_take (v : Nat) (ps : List (Nat × Pr)) (k : Nat) (hk : k < ps.length) : insideL v (ps.take (k + 1)) = insideL v (ps.take k) + (if holdsP v (ps[k]).2 then 1 else 0) := by
  rw [take_succ_get ps k hk, insideL_append]
  simp [insideL]
theorem shutL_app (v : Int) (a b : List (Nat × Pr)) : shutL v (a ++ b) = (shutL v a || shutL v b) := by
  induction a with
  | nil => simp [shutL]
  | cons x a ih => simp [shutL, ih, Bool.or_assoc]
theorem shutL_take (v : Int) (ps : List (Nat × Pr)) (k : Nat) (hk : k < ps.length) : shutL v (ps.take (k + 1)) = (shutL v (ps.take k) || shutP v (ps[k]).2) := by
  rw [take_succ_get ps k hk, shutL_app]
  simp [shutL]
theorem insideL_le' (v : Nat) : ∀ ps : List (Nat × Pr), insideL v ps ≤ ps.length
  | [] => by simp [insideL]
  | x :: r => by
    have := insideL_le' v r
    simp only [insideL, List.length_cons]
    split <;> omega

set_option maxHeartbeats 16000000 in
set_option maxRecDepth 100000 in
theorem kinside_c {w : World} {B hb : Nat} {P : PLay} {ops : List Op3} {went : List Bool} (h : KRep w B hb P ops went) (ps : List (Nat × Pr)) (hps : P.procs.length = ps.length) (hnp : ps.length ≤ 256)
    (htd : ∀ p, (hp : p < ps.length) → toldP P p = ((ps[p]).2.phase, (ps[p]).2.node, (ps[p]).2.val)) (W : Nat) (hW : P.c.width = (W : Int)) (hW4 : W ≤ 4) (D : Nat) (hD : P.c.depth = (D : Int)) (ls : List ND)
    (hN : Calls Try.prog 17 #[.pointer (some ⟨P.tb, 0, none⟩)] w fun e w' => ∃ x l, e = .returned x ∧ NodesRep w' w.heap.size x l ∧ l.map (fun y => y.1) = ls ∧ Below w.heap.size w w')
    (hsh : ShapedL D ls) (hi : InsL W ps ls) :
    Calls Try.prog 25 #[.pointer (some ⟨hb, 0, none⟩)] w fun e w' => e = .returned (.bool true) ∧ Below w.heap.size w w' := by
  have c0 := h.t
  have l0 := cell_lt c0
  have hat : Hid (∀ W', Below w.heap.size w W' → ∀ p, (hp : p < ps.length) → Calls Try.prog 44 #[.pointer (some ⟨hb, 0, none⟩), I p] W' fun e w' => e = .returned (.agg #[I (ps[p]).2.phase, I (ps[p]).2.node, I (ps[p]).2.val]) ∧ Below W'.heap.size W' w') := by
    intro W' hw p hp
    have := kat_c (h.below hw) (p : Int)
    rw [htd p hp] at this
    exact this
  obtain ⟨_, cD, _, ao9, cap9, c9, q1, q2, q3⟩ := h.conf
  rw [hD] at cD
  have hol : ops.length = ps.length := h.len.trans hps
  rw [hol] at c9 q1 q2
  have HSL : Hid (∀ W', Below w.heap.size w W' → ∀ (d : ND) (wv iv : Value) (b m : Nat), W'.ownsRow b 3 1 wv d.waiting.length (d.waiting.map I) → W'.ownsRow b 3 1 iv m (d.items.map I) → SlotsOk W ps d →
      Calls Try.prog 49 #[.pointer (some ⟨hb, 0, none⟩), .agg #[I d.num, I d.depth, I d.rank, .bool d.inner, .bool d.shut, I d.inside, I d.toggle, I d.width, wv, I d.puts, I d.gets, iv]] W' fun e w' => e = .returned (.bool true) ∧ Below W'.heap.size W' w') :=
    fun W' hw d wv iv b m r1 r2 hs => kslots_c (h.below hw) ps hps hnp htd W hW hW4 d wv iv b m r1 r2 hs
  have HSH : Hid (∀ W', Below w.heap.size w W' → ∀ b x l, NodesRep W' b x l → l.map (fun y => y.1) = ls → Calls Try.prog 23 #[.pointer (some ⟨hb, 0, none⟩), x] W' fun e w' => e = .returned (.bool true) ∧ Below W'.heap.size W' w') := by
    intro W' hw b x l hr el
    exact shaped_c D ((hw.cell (p := ⟨hb, 2, none⟩) l0).trans cD) hr (by rw [el]; exact hsh)
  have HIN : Hid _ := hi
  replace hN : Hid _ := hN
  have hl64 := hsh.len
  unfold maxLen at q2 q3
  clear h hsh hi htd hW hD
  go_enter Try.func25, Try.ntmps25
  go_wp2_with fail
  refine Calls.mono hN.out ?_
  rintro e w1 ⟨x, l, rfl, hr, el, hb1⟩
  have hsc := HSH.out _ hb1 _ _ _ hr el
  replace hsc : Hid _ := hsc
  have hll : l.length ≤ 64 := by have := congrArg List.length el; simp at this; omega
  clear hl64
  obtain ⟨aa, ca, rfl, a1, a2, a3, _⟩ := ownsRow_cells hr.row
  clear hN HSH
  go_wp2_with fail
  refine Calls.mono hsc.out ?_
  rintro e w2 ⟨rfl, hb2⟩
  have hr2 := hr.below hb2 (Nat.le_refl _)
  have hbz := hb1.trans (hb2.mono hb1.size)
  have HR : Hid _ := hr2
  have HF : Hid (∀ W', Below w2.heap.size w2 W' → ∀ v, Calls Try.prog 20 #[.slice aa l.length ca, I v] W' fun e w' => e = .returned (I (findN v (l.map fun y => y.1.num) 0)) ∧ w' = W') := fun W' hW' v => find_c (hr2.below hW' (Nat.le_refl _)) v
  have d9 := (hbz.cell (p := ⟨hb, 9, none⟩) l0).trans c9
  have l2 : hb < w2.heap.size := cell_lt d9
  have HEL : Hid _ := el
  unfold maxLen at a2 a3
  clear hr hr2 hb1 hb2 hsc c0 cD c9 el hps
  go_wp2_with fail
  go_loopw [4, 5, 6, 7, 8, 9, 10] (fun _ ii _ _ _ _ _ wr => ∃ k : Nat, k ≤ l.length ∧ ii = .int .i64 k ∧ Below w2.heap.size w2 wr) (fun _ ii _ _ _ _ _ _ => l.length - (intOf ii).toNat)
  case atStart => exact ⟨0, Nat.zero_le _, rfl, Below.refl _ _⟩
  case round =>
    obtain ⟨k, hk, rfl, hbr⟩ := hrel
    by_cases hlt : k < l.length
    · obtain ⟨g, e1, l1, f⟩ := nodes_at HR.out k hlt
      have e3 := e1 _ _ _ rfl
      subst e3
      clear e1
      have r1 := HR.out.waiting l[k] (List.getElem_mem _)
      have r2 := HR.out.items l[k] (List.getElem_mem _)
      have hdk : ∃ hk' : k < ls.length, ls[k] = (l[k]).1 := by
        have e := HEL.out
        subst e
        exact ⟨by simpa using hlt, by simp⟩
      obtain ⟨hk', hdk⟩ := hdk
      obtain ⟨v, ev, ei, es, eo⟩ := HIN.out.each k hk'
      rw [hdk] at ev ei es eo
      clear hdk
      generalize l[k] = y at *
      obtain ⟨d, wv, iv⟩ := y
      simp only at r1 r2 f ev ei es eo
      have HCS := fun W' (hb' : Below w2.heap.size w2 W') => HSL.out W' (hbz.trans (hb'.mono hbz.size)) d wv iv _ _ (ownsRow_below r1 hb' (Nat.le_refl _)) (ownsRow_below r2 hb' (Nat.le_refl _)) eo
      replace HCS : Hid _ := HCS
      obtain ⟨ao1, c1, rfl, _⟩ := row_cells r1
      obtain ⟨ao2, c2, rfl, _⟩ := row_cells r2
      obtain ⟨num, dep, rk, inner, sh, ins, tog, wid, wt, pu, ge, its⟩ := d
      simp only at ev ei es eo
      subst ev
      subst ei
      subst es
      clear r1 r2 eo HR HF HEL
      have HFC : Hid _ := f
      clear f
      have bk : decide ((k : Int) < (l.length : Int)) = true := decide_eq_true (by omega)
      go_wp2_with fail
      go_loopw [6, 7, 8, 9, 10] (fun nn ss pp _ _ wq => ∃ q : Nat, q ≤ ps.length ∧ nn = .int .i64 (insideL v (ps.take q) : Nat) ∧ ss = .bool (shutL v (ps.take q)) ∧ pp = .int .i64 q ∧ Below w2.heap.size w2 wq) (fun _ _ pp _ _ _ => ps.length - (intOf pp).toNat)
      case atStart => exact ⟨0, Nat.zero_le _, rfl, rfl, rfl, hbr⟩
      case round =>
        obtain ⟨q, hq, rfl, rfl, rfl, hbq⟩ := hrel
        have dq9 := (hbq.cell (p := ⟨hb, 9, none⟩) l2).trans d9
        have lq : hb < _ := cell_lt dq9
        by_cases hlq : q < ps.length
        · have ha := hat.out _ (hbz.trans (hbq.mono hbz.size)) q hlq
          have HIT : Hid _ := insideL_take v ps q hlq
          have HST : Hid _ := shutL_take (v : Int) ps q hlq
          have hok := HIN.out.ok q hlq
          have hle := insideL_le' v (ps.take q)
          have hle2 := List.length_take_le q ps
          have hho : Hid (∀ W', Calls Try.prog 48 #[.agg #[I (ps[q]).2.phase, I (ps[q]).2.node, I (ps[q]).2.val], I v] W' fun e w' => e = .returned (.bool (holdsP v (ps[q]).2)) ∧ Below W'.heap.size W' w') := fun W' => kholds_c v (ps[q]).2 hok (ps[q]).2.val W'
          have HSP : Hid (shutP (v : Int) (ps[q]).2 = (decide ((ps[q]).2.node = (v : Int)) && (decide ((ps[q]).2.phase = 16) || decide ((ps[q]).2.phase = 17) || decide ((ps[q]).2.phase = 18)))) := rfl
          clear hok
          generalize holdsP v (ps[q]).2 = hv at *
          generalize shutP (v : Int) (ps[q]).2 = sv at *
          generalize (ps[q]).2.phase = ph at *
          generalize (ps[q]).2.node = nd at *
          generalize (ps[q]).2.val = vl at *
          have bq : decide ((q : Int) < (ps.length : Int)) = true := decide_eq_true (by omega)
          replace ha : Hid _ := ha
          go_wp2_with fail
          refine Calls.mono ha.out ?_
          rintro e w4 ⟨rfl, hb4⟩
          have hb5 : Below w2.heap.size w2 w4 := hbq.trans (hb4.mono hbq.size)
          have hb6 : Below w2.heap.size w2 (w4.alloc (.cells #[I ph, I nd, I vl] 84)) := hb5.alloc hb5.size _
          have nbx : (w4.alloc (.cells #[I ph, I nd, I vl] 84)).heap[w4.heap.size]? = some (.cells #[I ph, I nd, I vl] 84 (0, 0)) := nb_alloc _ _ _
          have p0 : (w4.alloc (.cells #[I ph, I nd, I vl] 84)).cell? ⟨g, k * 12, none⟩ = some (I v) := (hb6.cell (p := ⟨g, k * 12 + 0, none⟩) l1).trans (HFC.out 0 (by omega))
          obtain ⟨nx1, _⟩ := nb_facts nbx
          have lx := (Array.getElem?_eq_some_iff.1 nbx).1
          have lg := cell_lt p0
          clear ha hb4 hb5
          go_wp2_with fail
          go_cut [10] (fun s10 wx => s10 = .bool hv ∧ Below w2.heap.size w2 wx ∧ wx.heap[w4.heap.size]? = some (.cells #[I ph, I nd, I vl] 84 (0, 0)))
          case first =>
            go_region_with (go_at_call 48; refine (hho.out _).mono ?_; rintro e w5 ⟨rfl, hb7⟩)
            all_goals
              go_wp2_with fail
              go_meet
              exact ⟨rfl, hb6.drew.trans (hb7.mono hb6.size), (hb7.block _ lx).trans nbx⟩
          case rest =>
            clear hb6 nbx p0 nx1 lx lg hho
            obtain ⟨rfl, hbx, nbx⟩ := hcut
            generalize wc = wx at *
            obtain ⟨nx1, _⟩ := nb_facts nbx
            have lx := (Array.getElem?_eq_some_iff.1 nbx).1
            have p0 : wx.cell? ⟨g, k * 12, none⟩ = some (I v) := (hbx.cell (p := ⟨g, k * 12 + 0, none⟩) l1).trans (HFC.out 0 (by omega))
            have lg := cell_lt p0
            have hvi : ∃ vi : Int, Hid ((v : Int) = vi) := ⟨_, rfl⟩
            obtain ⟨vi, hvi⟩ := hvi
            rw [hvi.out] at p0
            generalize shutL (v : Int) (ps.take q) = sb at *
            cases hv
            · have HI2 : Hid (insideL v (ps.take (q + 1)) = insideL v (ps.take q)) := by show _ = _; rw [HIT.out]; simp
              clear HIT
              cases sb
              · by_cases e1 : nd = (v : Int)
                · have b1 : (nd == vi) = true := by rw [beq_iff_eq, ← hvi.out]; exact e1
                  have d1 : decide (nd = (v : Int)) = true := decide_eq_true e1
                  rw [d1] at HSP
                  clear d1 e1
                  by_cases e16 : ph = 16
                  · subst e16
                    go_wp2_with fail
                    go_quiet (fail)
                    go_wp2_with fail
                    go_roundw
                    case rel => exact ⟨q + 1, by omega, int_of (by rw [HI2.out]), congrArg Value.bool (by rw [HST.out, HSP.out]; rfl), by go_num, Below.drewN' hbx _⟩
                    case measure => simp [intOf]; omega
                  · have b16 : (ph == 16) = false := by rw [beq_eq_false_iff_ne]; exact e16
                    have d16 : decide (ph = 16) = false := decide_eq_false e16
                    rw [d16] at HSP
                    clear d16 e16
                    by_cases e17 : ph = 17
                    · subst e17
                      go_wp2_with fail
                      go_quiet (fail)
                      go_wp2_with fail
                      go_roundw
                      case rel => exact ⟨q + 1, by omega, int_of (by rw [HI2.out]), congrArg Value.bool (by rw [HST.out, HSP.out]; rfl), by go_num, Below.drewN' hbx _⟩
                      case measure => simp [intOf]; omega
                    · have b17 : (ph == 17) = false := by rw [beq_eq_false_iff_ne]; exact e17
                      have d17 : decide (ph = 17) = false := decide_eq_false e17
                      rw [d17] at HSP
                      clear d17 e17
                      by_cases e18 : ph = 18
                      · subst e18
                        go_wp2_with fail
                        go_quiet (fail)
                        go_wp2_with fail
                        go_roundw
                        case rel => exact ⟨q + 1, by omega, int_of (by rw [HI2.out]), congrArg Value.bool (by rw [HST.out, HSP.out]; rfl), by go_num, Below.drewN' hbx _⟩
                        case measure => simp [intOf]; omega
                      · have b18 : (ph == 18) = false := by rw [beq_eq_false_iff_ne]; exact e18
                        have d18 : decide (ph = 18) = false := decide_eq_false e18
                        rw [d18] at HSP
                        clear d18 e18
                        go_wp2_with fail
                        go_quiet (fail)
                        go_wp2_with fail
                        go_roundw
                        case rel => exact ⟨q + 1, by omega, int_of (by rw [HI2.out]), congrArg Value.bool (by rw [HST.out, HSP.out]; rfl), by go_num, Below.drewN' hbx _⟩
                        case measure => simp [intOf]; omega
                · have b1 : (nd == vi) = false := by rw [beq_eq_false_iff_ne, ← hvi.out]; exact e1
                  have d1 : decide (nd = (v : Int)) = false := decide_eq_false e1
                  rw [d1] at HSP
                  clear d1 e1
                  go_wp2_with fail
                  go_quiet (fail)
                  go_wp2_with fail
                  go_roundw
                  case rel => exact ⟨q + 1, by omega, int_of (by rw [HI2.out]), congrArg Value.bool (by rw [HST.out, HSP.out]; rfl), by go_num, Below.drewN' hbx _⟩
                  case measure => simp [intOf]; omega
              · go_wp2_with fail
                go_quiet (fail)
                go_wp2_with fail
                go_roundw
                case rel => exact ⟨q + 1, by omega, int_of (by rw [HI2.out]), congrArg Value.bool (by rw [HST.out, HSP.out]; simp), by go_num, Below.drewN' hbx _⟩
                case measure => simp [intOf]; omega
            · have HI2 : Hid (insideL v (ps.take (q + 1)) = insideL v (ps.take q) + 1) := by show _ = _; rw [HIT.out]; simp
              clear HIT
              cases sb
              · by_cases e1 : nd = (v : Int)
                · have b1 : (nd == vi) = true := by rw [beq_iff_eq, ← hvi.out]; exact e1
                  have d1 : decide (nd = (v : Int)) = true := decide_eq_true e1
                  rw [d1] at HSP
                  clear d1 e1
                  by_cases e16 : ph = 16
                  · subst e16
                    go_wp2_with fail
                    go_quiet (fail)
                    go_wp2_with fail
                    go_roundw
                    case rel => exact ⟨q + 1, by omega, int_of (by rw [HI2.out]; omega), congrArg Value.bool (by rw [HST.out, HSP.out]; rfl), by go_num, Below.drewN' hbx _⟩
                    case measure => simp [intOf]; omega
                  · have b16 : (ph == 16) = false := by rw [beq_eq_false_iff_ne]; exact e16
                    have d16 : decide (ph = 16) = false := decide_eq_false e16
                    rw [d16] at HSP
                    clear d16 e16
                    by_cases e17 : ph = 17
                    · subst e17
                      go_wp2_with fail
                      go_quiet (fail)
                      go_wp2_with fail
                      go_roundw
                      case rel => exact ⟨q + 1, by omega, int_of (by rw [HI2.out]; omega), congrArg Value.bool (by rw [HST.out, HSP.out]; rfl), by go_num, Below.drewN' hbx _⟩
                      case measure => simp [intOf]; omega
                    · have b17 : (ph == 17) = false := by rw [beq_eq_false_iff_ne]; exact e17
                      have d17 : decide (ph = 17) = false := decide_eq_false e17
                      rw [d17] at HSP
                      clear d17 e17
                      by_cases e18 : ph = 18
                      · subst e18
                        go_wp2_with fail
                        go_quiet (fail)
                        go_wp2_with fail
                        go_roundw
                        case rel => exact ⟨q + 1, by omega, int_of (by rw [HI2.out]; omega), congrArg Value.bool (by rw [HST.out, HSP.out]; rfl), by go_num, Below.drewN' hbx _⟩
                        case measure => simp [intOf]; omega
                      · have b18 : (ph == 18) = false := by rw [beq_eq_false_iff_ne]; exact e18
                        have d18 : decide (ph = 18) = false := decide_eq_false e18
                        rw [d18] at HSP
                        clear d18 e18
                        go_wp2_with fail
                        go_quiet (fail)
                        go_wp2_with fail
                        go_roundw
                        case rel => exact ⟨q + 1, by omega, int_of (by rw [HI2.out]; omega), congrArg Value.bool (by rw [HST.out, HSP.out]; rfl), by go_num, Below.drewN' hbx _⟩
                        case measure => simp [intOf]; omega
                · have b1 : (nd == vi) = false := by rw [beq_eq_false_iff_ne, ← hvi.out]; exact e1
                  have d1 : decide (nd = (v : Int)) = false := decide_eq_false e1
                  rw [d1] at HSP
                  clear d1 e1
                  go_wp2_with fail
                  go_quiet (fail)
                  go_wp2_with fail
                  go_roundw
                  case rel => exact ⟨q + 1, by omega, int_of (by rw [HI2.out]; omega), congrArg Value.bool (by rw [HST.out, HSP.out]; rfl), by go_num, Below.drewN' hbx _⟩
                  case measure => simp [intOf]; omega
              · go_wp2_with fail
                go_quiet (fail)
                go_wp2_with fail
                go_roundw
                case rel => exact ⟨q + 1, by omega, int_of (by rw [HI2.out]; omega), congrArg Value.bool (by rw [HST.out, HSP.out]; simp), by go_num, Below.drewN' hbx _⟩
                case measure => simp [intOf]; omega
        · have eT : ps.take q = ps := List.take_of_length_le (by omega)
          rw [eT]
          have bq : decide ((q : Int) < (ps.length : Int)) = false := decide_eq_false (by omega)
          have hcs := HCS.out _ hbq
          replace hcs : Hid _ := hcs
          have F := fun j hj => (hbq.cell (p := ⟨g, k * 12 + j, none⟩) l1).trans (HFC.out j hj)
          have p0 := F 0 (by omega); have p1 := F 1 (by omega); have p2 := F 2 (by omega); have p3 := F 3 (by omega); have p4 := F 4 (by omega); have p5 := F 5 (by omega)
          have p6 := F 6 (by omega); have p7 := F 7 (by omega); have p8 := F 8 (by omega); have p9 := F 9 (by omega); have p10 := F 10 (by omega); have p11 := F 11 (by omega)
          simp only [ndCells, Nat.add_zero] at p0 p1 p2 p3 p4 p5 p6 p7 p8 p9 p10 p11
          have lg := cell_lt p0
          clear F eT
          generalize insideL v ps = iv at *
          generalize shutL (v : Int) ps = sv at *
          generalize (v : Int) = vi at *
          go_wp2_with fail
          refine Calls.mono hcs.out ?_
          rintro e w6 ⟨rfl, hb7⟩
          have hb8 : Below w2.heap.size w2 w6 := hbq.trans (hb7.mono hbq.size)
          have r4 := (hb7.cell (p := ⟨g, k * 12 + 4, none⟩) lg).trans p4
          have r5 := (hb7.cell (p := ⟨g, k * 12 + 5, none⟩) lg).trans p5
          have lg6 := cell_lt r4
          clear p0 p1 p2 p3 p4 p5 p6 p7 p8 p9 p10 p11 hcs hb7
          have bi : ((iv : Int) != (iv : Int)) = false := by simp
          have bs : (sv != sv) = false := by simp
          go_wp2_with fail
          go_roundw
          case rel => exact ⟨k + 1, by omega, by go_num, hb8⟩
          case measure => simp [intOf]; omega
    · have bk : decide ((k : Int) < (l.length : Int)) = false := decide_eq_false (by omega)
      clear HR HSL
      go_wp2_with fail
      go_loopw [11, 12, 13] (fun pp _ _ wq => ∃ q : Nat, q ≤ ps.length ∧ pp = .int .i64 q ∧ Below w2.heap.size w2 wq) (fun pp _ _ _ => ps.length - (intOf pp).toNat)
      case atStart => exact ⟨0, Nat.zero_le _, rfl, hbr⟩
      case round =>
        obtain ⟨q, hq, rfl, hbq⟩ := hrel
        have dq9 := (hbq.cell (p := ⟨hb, 9, none⟩) l2).trans d9
        have lq : hb < _ := cell_lt dq9
        by_cases hlq : q < ps.length
        · have ha := hat.out _ (hbz.trans (hbq.mono hbz.size)) q hlq
          obtain ⟨hd1, hd2⟩ := HIN.out.done q hlq
          have hnm : ls.map (fun d => d.num) = l.map fun y => y.1.num := by rw [← HEL.out]; simp [List.map_map, Function.comp_def]
          rw [hnm] at hd2
          have hfd := fun W' hW' => HF.out W' hW' (ps[q]).2.node
          clear hnm
          generalize findN (ps[q]).2.node (l.map fun y => y.1.num) 0 = fd at *
          generalize (ps[q]).2.phase = ph at *
          generalize (ps[q]).2.node = nd at *
          generalize (ps[q]).2.val = vl at *
          have bq : decide ((q : Int) < (ps.length : Int)) = true := decide_eq_true (by omega)
          replace ha : Hid _ := ha
          replace hfd : Hid _ := hfd
          replace hd1 : Hid _ := hd1
          replace hd2 : Hid _ := hd2
          go_wp2_with fail
          refine Calls.mono ha.out ?_
          rintro e w4 ⟨rfl, hb4⟩
          have hb5 : Below w2.heap.size w2 w4 := hbq.trans (hb4.mono hbq.size)
          have hb6 : Below w2.heap.size w2 (w4.alloc (.cells #[I ph, I nd, I vl] 84)) := hb5.alloc hb5.size _
          clear ha hb4 hb5
          go_wp2_with fail
          refine Calls.mono (hfd.out _ hb6) ?_
          rintro e w5 ⟨rfl, rfl⟩
          by_cases e20 : ph = 20
          · have e0 : nd = 0 := hd1.out.1 e20
            subst e20 e0
            clear hd1 hd2 hfd
            go_wp2_with fail
            go_roundw
            case rel => exact ⟨q + 1, by omega, by go_num, hb6⟩
            case measure => simp [intOf]; omega
          · have e0 : nd ≠ 0 := fun x => e20 (hd1.out.2 x)
            have b20 : (ph == 20) = false := by rw [beq_eq_false_iff_ne]; exact e20
            have b0 : (nd == 0) = false := by rw [beq_eq_false_iff_ne]; exact e0
            have b0' : (nd != 0) = true := by simp [e0]
            have bf : decide (fd < 0) = false := decide_eq_false (by have := hd2.out e0; omega)
            clear hd1 hd2 hfd e20 e0
            go_wp2_with fail
            go_roundw
            case rel => exact ⟨q + 1, by omega, by go_num, hb6⟩
            case measure => simp [intOf]; omega
        · have bq : decide ((q : Int) < (ps.length : Int)) = false := decide_eq_false (by omega)
          clear hat HIN HF
          go_wp2_with fail
          go_ret
          exact ⟨rfl, hbz.trans (hbq.mono hbz.size)⟩

end Go.Proofs.Ytjnmpejcegmkhaa
