/- The walk of the statement Queue: for every configuration and list of picks the call answers true, and what was there is as it was. The statement Queue: for every configuration (any eight numbers) and every list of numbers the call of prismkeep.Queue returns true, and its arguments read as they did before. No condition. -/
import Derived.Test.YtjnmpejcegmkhabLift
import Derived.Test.YtjnmpejcegmkhabKeep10
import Derived.Test.YtjnmpejcegmkhabRows
import Derived.WalkKit
import Derived.ProofKit
import Derived.OpenShut
import Derived.Carry
import Derived.Lib.SmallJoins
import Derived.Deep.Slices
namespace Go.Proofs.Ytjnmpejcegmkhab
open Go.RowKit

def putsS (l : List ND) : Int := (l.map fun d => d.puts).sum
theorem putsS_snoc (l : List ND) (d : ND) : putsS (l ++ [d]) = putsS l + d.puts := by simp [putsS]
theorem puts_sumN {c : Conf} {L : Lay} {P : PLay} (h : CRel c L P) (hc : c.kind = 0) : ∀ k, k ≤ L.past.length → putsS (rnodesTo L k) = sumN (fun w => balH (L.hist w)) k
  | 0, _ => by simp [putsS, rnodesTo, sumN]
  | k + 1, hk => by
    have ih := puts_sumN h hc k (by omega)
    rw [rnodesTo_succ]
    simp only [sumN]
    by_cases e : k = 0 ∨ formH (L.hist k) = 3
    · have f3 : formH (L.hist k) = 3 := by
        rcases e with e | e
        · subst e; exact h.rel.hist0
        · exact e
      rw [if_pos e, List.append_nil, ih]
      simp [balH, f3]
    · rw [if_neg e, putsS_snoc, ih]
      congr 1
      have hf := (h.rel.nodes k (by omega) (by omega)).form
      have hf2 : formH (L.hist k) = 1 ∨ formH (L.hist k) = 2 := by omega
      have hg := h.ck.ci.nog hc k (by omega)
      rcases hf2 with f | f
      · simp [balH, f, rnode]
      · simp [balH, f, rnode, hg]

theorem QOk.puts {c : Conf} {L : Lay} {P : PLay} {cnt : Nat} {lies : List Int} (q : QOk c L cnt lies) (h : CRel c L P) (hc : c.kind = 0) : putsS (rnodes L) = (cnt : Int) := by
  have e := puts_sumN h hc L.past.length (Nat.le_refl _)
  have er : rnodesTo L L.past.length = rnodes L := rfl
  rw [er] at e
  have ht := q.ao.x.tot
  unfold TotOk at ht
  have hz : sumP (tokP L.procs) L.procs = 0 := sumP_zero _ _ fun i hi => by
    have := q.idle i hi
    rw [tokP_lo (by omega), if_neg (by omega)]
  rw [hz, (q.incs hc).1] at ht
  unfold balS at ht
  omega

theorem QOk.few {c : Conf} {L : Lay} {P : PLay} {cnt : Nat} {lies : List Int} (q : QOk c L cnt lies) (h : CRel c L P) : lies.length ≤ 1000 := by
  have hcf := h.rel.confs
  have hm := h.rel.may
  have h5 : c.slots ≤ 4 ∧ 0 ≤ c.depth ∧ c.depth ≤ 4 := by simp [mayC] at hm; omega
  rcases hcf.1 with k | k
  · have := q.len
    rw [items_none h k] at this
    simp at this
    rw [this]
    simp
  · have hs := (q.sum h k).2
    have h16 : 2 ^ c.depth.toNat ≤ 2 ^ 4 := Nat.pow_le_pow_right (by omega) (by omega)
    have h16' : ((2 ^ c.depth.toNat : Nat) : Int) ≤ 16 := by omega
    push_cast at h16'
    have hp : (0 : Int) < 2 ^ c.depth.toNat := Int.pow_pos (by omega)
    have : c.slots * 2 ^ c.depth.toNat ≤ 4 * 2 ^ c.depth.toNat := Int.mul_le_mul_of_nonneg_right (by omega) (by omega)
    omega

theorem QOk.new {c : Conf} {P : PLay} (h : CRel c (newLay c) P) : QOk c (newLay c) 0 [] := by
  refine ⟨AOk.new c, fun j hj => absurd hj (Nat.not_lt_zero _), fun _ => ⟨rfl, fun m hm => absurd hm (Nat.not_lt_zero _)⟩, fun x => ?_⟩
  have := lies_still h (VOk.new c) (fun j hj => absurd hj (Nat.not_lt_zero _)) x
  have e : (newLay c).procs.length = 0 := rfl
  rw [e] at this
  simp [cntTo] at this
  rw [List.count_nil]
  omega

theorem wrap64_add2 (a b : Int) : wrap64 (wrap64 a + b) = wrap64 (a + b) := by unfold wrap64; omega

/-- Between two operations: the hand, and what the caller holds of it. -/
def QW (W : World) (B hb : Nat) (c : Conf) (k cnt : Nat) (ll : Value) : Prop :=
  ∃ S P lies base, KSt W B hb c S P ∧ QOk c S.L cnt lies ∧ S.L.procs.length = k ∧ W.ownsRow base 3 1 ll lies.length (lies.map I)

theorem QW.next {W : World} {B hb : Nat} {c : Conf} {S : Gh} {P : PLay} {cnt : Nat} {lies : List Int} {o : Op3} (h0 : CRel c S.L P) (q : QOk c S.L cnt lies) (e : OneE W B hb c S.L o) (hl : lies.length ≤ 1000) {base : Nat} {lv : Value} (hr : W.ownsRow base 3 1 lv lies.length (lies.map I)) :
    Calls Try.prog 20 #[.pointer (some ⟨hb, 0, none⟩), .agg #[I o.kind, I o.val, I o.node], lv] W fun e w' => (∃ mv, e = .returned (.tuple #[mv, .bool true]) ∧ QW w' B hb c (S.L.procs.length + 1) (if o.kind = 0 then cnt + 1 else cnt) mv) ∧ Below W.heap.size W w' := by
  obtain ⟨S2, P2, h2, x2, hi, h20⟩ := e
  obtain ⟨m1, m2⟩ := one_must q h0 h2.rel x2 hi h20
  refine (kcarries_c h2 o lies base lv hr hl _ hi x2.idx.2 m1 m2).mono fun e w' ⟨⟨mv, b2, he, hrow⟩, hb2⟩ => ?_
  exact ⟨⟨mv, he, S2, P2, _, b2, h2.below hb2, one_next q h0 h2.rel x2 hi h20, x2.idx.2, hrow⟩, hb2⟩

set_option maxHeartbeats 8000000 in
set_option maxRecDepth 100000 in
theorem queue_walk (c : Conf) (w : World) (pv : Value) (n : Nat) (pf : Nat → Int) (hpk : PicksIn w pv n pf) : Calls Try.prog 5 #[confV c, pv] w fun e w' => e = .returned (.bool true) ∧ Below w.heap.size w w' := by
  obtain ⟨ao, cap, rfl, n1, n2, h4⟩ := hpk.form
  unfold maxLen at n2
  have hba : Below w.heap.size w (w.alloc (.cells #[I c.kind, I c.depth, I c.start, I c.slots, I c.width, I c.spin, I c.drain, I c.procs] 23)) := (Below.refl _ _).alloc (Nat.le_refl _) _
  cases hm : mayC c
  · have hbg := fun W => kbegin_no c W hm
    unfold confV at hbg ⊢
    replace hbg : Hid _ := hbg
    clear hpk h4 hm
    go_enter Try.func5, Try.ntmps5
    go_wp2_with fail
    refine Calls.mono (hbg.out _) ?_
    rintro e w1 ⟨rfl, hb1⟩
    go_wp2_with fail
    go_ret
    exact ⟨rfl, hba.trans (hb1.mono hba.size)⟩
  · have hbg := fun W => kbegin_yes c W hm
    unfold confV at hbg ⊢
    replace hbg : Hid _ := hbg
    have HM : Hid _ := hm
    have H4 : Hid _ := h4
    clear hpk h4 hm
    go_enter Try.func5, Try.ntmps5
    go_wp2_with fail
    refine Calls.mono (hbg.out _) ?_
    rintro e w1 ⟨hb, P, rfl, hk, hpn, hb1⟩
    have hst := KSt.new HM.out hk hpn hb1.size
    have hbw : Below w.heap.size w w1 := hba.trans (hb1.mono hba.size)
    have HQ0 : Hid (QW w1 (w.alloc (.cells #[I c.kind, I c.depth, I c.start, I c.slots, I c.width, I c.spin, I c.drain, I c.procs] 23)).heap.size hb c 0 0 (.slice none 0 0)) := ⟨_, _, [], 0, hst, QOk.new hst.rel, rfl, World.ownsRow_nil _ _ _ _⟩
    have HB : Hid (w.heap.size ≤ (w.alloc (.cells #[I c.kind, I c.depth, I c.start, I c.slots, I c.width, I c.spin, I c.drain, I c.procs] 23)).heap.size) := hba.size
    generalize (w.alloc (.cells #[I c.kind, I c.depth, I c.start, I c.slots, I c.width, I c.spin, I c.drain, I c.procs] 23)).heap.size = B at *
    clear hbg hb1 hba hk hpn hst
    go_wp2_with fail
    go_loopw [6, 7, 8, 9, 10] (fun _ cc ll ii _ wr => ∃ k cnt : Nat, k ≤ n ∧ k ≤ 256 ∧ cnt ≤ k ∧ ii = .int .i64 k ∧ cc = .int .i64 cnt ∧ Hid (QW wr B hb c k cnt ll) ∧ Below w.heap.size w wr) (fun _ _ _ ii _ _ => n - (intOf ii).toNat)
    case atStart => exact ⟨0, 0, Nat.zero_le _, Nat.zero_le _, Nat.le_refl _, rfl, rfl, HQ0.out, hbw⟩
    case round =>
      obtain ⟨k, cnt, hk, hk2, hcn, rfl, rfl, hq, hbr⟩ := hrel
      obtain ⟨S, P, lies, base, hst, hqo, hpl, hrow⟩ := hq.out
      have hfew := hqo.few hst.rel
      obtain ⟨al, cl, rfl, r1, r2, r3, _⟩ := row_cells hrow
      by_cases hlt : k < n ∧ k < 256
      · obtain ⟨hl1, hl2⟩ := hlt
        obtain ⟨hlo, b, off, rfl, lb, p0⟩ := H4.out k hl1
        have d0 := (hbr.cell (p := ⟨b, off + k, none⟩) lb).trans p0
        have ld := cell_lt d0
        have bk : decide ((k : Int) < (n : Int)) = true := decide_eq_true (by omega)
        have bk2 : decide ((k : Int) < 256) = true := decide_eq_true (by omega)
        have hpf := pick_f (pf k) hlo 1099511627776 (by omega) (by omega) wr
        have htu := kturn_c hst (pickV (pf k) 1099511627776) lies.length (Nat.le_of_lt (pickV_lt (pf k) 1099511627776 (by omega))) hfew (Below.refl _ _)
        have e40 : ((1099511627776 : Nat) : Int) = 1099511627776 := rfl
        rw [e40] at hpf
        generalize pickV (pf k) 1099511627776 = x at hpf htu
        generalize pf k = pk at *
        have HSG : Hid (∀ W o, TurnOk c lies.length o → Below wr.heap.size wr W → Calls Try.prog 19 #[.pointer (some ⟨hb, 0, none⟩), .agg #[I o.kind, I o.val, I o.node], I pk, I cnt] W.drew fun e w' => e = .returned (.bool true) ∧ OneE w' B hb c S.L o ∧ Keeps hb W w' ∧ Below B W w') := by
          intro W o ho hW
          have hs2 := hst.below hW
          have hd : Below W.heap.size W W.drew := (Below.refl _ _).drew
          refine (ksingle_c (hs2.below hd) hqo o ho (by omega) pk).mono fun e w' ⟨h1, h2, h3, h4⟩ => ⟨h1, h2, (Keeps.below hs2 hd).trans h3, (hd.mono hs2.hB).trans h4⟩
        have HNX : Hid (∀ W o lv, OneE W B hb c S.L o → W.ownsRow base 3 1 lv lies.length (lies.map I) → Calls Try.prog 20 #[.pointer (some ⟨hb, 0, none⟩), .agg #[I o.kind, I o.val, I o.node], lv] W fun e w' => (∃ mv, e = .returned (.tuple #[mv, .bool true]) ∧ QW w' B hb c (S.L.procs.length + 1) (if o.kind = 0 then cnt + 1 else cnt) mv) ∧ Below W.heap.size W w') := fun W o lv he hr => QW.next hst.rel hqo he hfew hr
        have HROW : Hid (wr.ownsRow base 3 1 (.slice al lies.length cl) lies.length (lies.map I)) := hrow
        have HFN : Hid (∀ W, Below wr.heap.size wr W → ∀ cs, Free (W.alloc (.cells cs 51)) hb W.heap.size cs) := fun W hW cs => free_new (hst.below hW) cs
        have HBB : Hid (B ≤ wr.heap.size) := hst.hB
        unfold maxLen at r2
        replace hpf : Hid _ := hpf
        replace htu : Hid _ := htu
        clear hst hqo hrow hq H4 p0 HQ0 e40 hlo r3
        go_wp2_with fail
        refine Calls.mono hpf.out ?_
        rintro e wz ⟨rfl, rfl⟩
        go_wp2_with fail
        refine Calls.mono htu.out ?_
        rintro e w2 ⟨⟨o, rfl, ho⟩, hb2⟩
        obtain ⟨kd, ov, on⟩ := o
        simp only at *
        have hf3 := HFN.out w2 hb2 #[I kd, I ov, I on]
        have hb3 : Below wz.heap.size wz (w2.alloc (.cells #[I kd, I ov, I on] 51)) := hb2.alloc hb2.size _
        have hsg := HSG.out _ ⟨kd, ov, on⟩ ho hb3
        simp only at hsg
        have hrow3 : Hid _ := ownsRow_below HROW.out hb3 (Nat.le_refl _)
        have dk := (hb3.cell (p := ⟨b, off + k, none⟩) ld).trans d0
        have hbw3 : Below w.heap.size w (w2.alloc (.cells #[I kd, I ov, I on] 51)) := hbr.trans (hb3.mono hbr.size)
        obtain ⟨x3, _⟩ := nb_facts hf3.1
        have lx3 := (Array.getElem?_eq_some_iff.1 hf3.1).1
        have lk3 := cell_lt dk
        have HF3 : Hid _ := hf3
        replace hsg : Hid _ := hsg
        clear hpf htu HSG HFN HROW hb2 d0 ld hf3 ho hbr
        go_upto_region 10 with fail
        generalize w2.alloc (.cells #[I kd, I ov, I on] 51) = W3 at *
        go_cut [6] (fun s6 wx => s6 = .bool true ∧ Hid (OneE wx B hb c S.L ⟨kd, ov, on⟩ ∧ Keeps hb W3 wx) ∧ Below w.heap.size w wx)
        case first =>
          go_region_with (go_at_call 19; refine Calls.mono hsg.out ?_; rintro e w4 ⟨rfl, g1, g2, g3⟩)
          all_goals
            go_wp2_with fail
            go_meet
            exact ⟨rfl, ⟨g1, g2⟩, hbw3.trans (g3.mono HB.out)⟩
        case rest =>
          obtain ⟨rfl, h56, hb5⟩ := hcut
          obtain ⟨g1, g2⟩ := h56.out
          have HNX5 := HNX.out _ ⟨kd, ov, on⟩ _ g1 (g2.row _ _ _ _ hrow3.out)
          simp only at HNX5
          obtain ⟨nb5, _⟩ := g2.free _ _ HF3.out
          replace HNX5 : Hid _ := HNX5
          clear h56 g1 g2 HNX hrow3 HF3 hsg hbw3 x3 lx3 dk lk3 hb3
          generalize wc = w5 at *
          obtain ⟨x5, _⟩ := nb_facts nb5
          have lx5 := (Array.getElem?_eq_some_iff.1 nb5).1
          by_cases ko : kd = 0
          · have bo : (kd == 0) = true := by rw [beq_iff_eq]; exact ko
            replace ko : Hid (kd = 0) := ko
            go_wp2_with fail
            refine Calls.mono HNX5.out ?_
            rintro e w6 ⟨⟨mv, rfl, hq6⟩, hb6⟩
            have hb7 : Below w.heap.size w w6 := hb5.trans (hb6.mono hb5.size)
            have HQ6 : Hid _ := hq6
            clear HNX5 hb6 hq6
            go_wp2_with fail
            go_roundw
            case rel => exact ⟨k + 1, cnt + 1, by omega, by omega, by omega, by go_num, by go_num, by rw [if_pos ko.out, hpl] at HQ6; exact HQ6, hb7⟩
            case measure => simp [intOf]; omega
          · have bo : (kd == 0) = false := by rw [beq_eq_false_iff_ne]; exact ko
            replace ko : Hid (¬ kd = 0) := ko
            go_wp2_with fail
            refine Calls.mono HNX5.out ?_
            rintro e w6 ⟨⟨mv, rfl, hq6⟩, hb6⟩
            have hb7 : Below w.heap.size w w6 := hb5.trans (hb6.mono hb5.size)
            have HQ6 : Hid _ := hq6
            clear HNX5 hb6 hq6
            go_wp2_with fail
            go_roundw
            case rel => exact ⟨k + 1, cnt, by omega, by omega, by omega, by go_num, by go_num, by rw [if_neg ko.out, hpl] at HQ6; exact HQ6, hb7⟩
            case measure => simp [intOf]; omega
      · by_cases hl1 : k < n
        · have bk : decide ((k : Int) < (n : Int)) = true := decide_eq_true (by omega)
          have bk2 : decide ((k : Int) < 256) = false := decide_eq_false (by omega)
          have hnd := hst.nodes (Below.refl _ _)
          have HST : Hid (KSt wr B hb c S P) := hst
          have HQO : Hid (QOk c S.L cnt lies) := hqo
          have hlr := hst.rel.shaped.len
          have c0 := hst.rep.t
          have l0 := cell_lt c0
          replace hnd : Hid _ := hnd
          clear hst hqo hrow hq H4 HQ0 HB r1 r2 r3 hbw hfew
          go_wp2_with fail
          refine Calls.mono hnd.out ?_
          rintro e w2 ⟨xn, l, rfl, hr, el, hb2⟩
          obtain ⟨aa, ca, ex, a1, a2, a3, _⟩ := ownsRow_cells hr.row
          subst ex
          have hll : l.length ≤ 64 := by have := congrArg List.length el; simp at this; omega
          have HEL : Hid (∀ j, (hj : j < l.length) → putsS ((rnodes S.L).take (j + 1)) = putsS ((rnodes S.L).take j) + (l[j]).1.puts) := by
            intro j hj
            have hl : l.length = (rnodes S.L).length := by rw [← el]; simp
            have hj' : j < (rnodes S.L).length := by omega
            rw [List.take_succ_eq_append_getElem hj', putsS_snoc]
            congr 2
            have := congrArg (fun z => z[j]?) el
            simp [hj] at this
            rw [List.getElem?_eq_getElem hj'] at this
            exact (Option.some.inj this).symm
          have HALL : Hid (putsS ((rnodes S.L).take l.length) = putsS (rnodes S.L)) := by
            show _ = _
            have hl : l.length = (rnodes S.L).length := by rw [← el]; simp
            rw [hl, List.take_length]
          have HSH : Hid _ := (HST.out.below hb2).shaped hr el
          have hkd := (HST.out.below hb2).confAt.1
          have hckd := HST.out.rel.rel.confs.1
          have HPU : Hid (c.kind = 0 → putsS (rnodes S.L) = (cnt : Int)) := fun e => HQO.out.puts HST.out.rel e
          have HR : Hid (NodesRep w2 wr.heap.size (.slice aa l.length ca) l) := hr
          have hb3 : Below w.heap.size w w2 := hbr.trans (hb2.mono hbr.size)
          have lkd := cell_lt hkd
          unfold maxLen at a2 a3
          clear hnd hr el hlr HST HQO hb2 hbr
          generalize rnodes S.L = rn at *
          generalize c.kind = ck at *
          go_wp2_with fail
          go_loopw [11, 13] (fun ss ii wx => wx = w2 ∧ ∃ j : Nat, j ≤ l.length ∧ ii = .int .i64 j ∧ ss = .int .i64 (wrap64 (putsS (rn.take j)))) (fun _ ii _ => l.length - (intOf ii).toNat)
          case atStart => exact ⟨rfl, 0, Nat.zero_le _, rfl, by simp [putsS, wrap64]⟩
          case round =>
            obtain ⟨rfl, j, hj, rfl, rfl⟩ := hrel
            by_cases hjl : j < l.length
            · obtain ⟨g, e1, l1, f⟩ := nodes_at HR.out j hjl
              have e3 := e1 _ _ _ rfl
              subst e3
              clear e1
              have HS : Hid _ := HEL.out j hjl
              have bj : decide ((j : Int) < (l.length : Int)) = true := decide_eq_true (by omega)
              have c9 : wr.cell? ⟨g, j * 12 + 9, none⟩ = some (I (l[j]).1.puts) := by rw [f 9 (by omega)]; rfl
              have lg := cell_lt c9
              clear f HEL HALL HSH HPU HR
              generalize (l[j]).1.puts = pu at *
              generalize putsS (rn.take j) = z at *
              go_wp2_with fail
              go_roundw
              case rel => exact ⟨by first | trivial | rfl, j + 1, by omega, by go_num, by rw [HS.out]; exact congrArg _ (wrap64_add2 _ _)⟩
              case measure => simp [intOf]; omega
            · have ej : j = l.length := by omega
              subst ej
              have bj : decide ((l.length : Int) < (l.length : Int)) = false := decide_eq_false (by omega)
              rw [HALL.out]
              clear HALL HEL HR
              generalize wr = w3 at *
              rcases hckd with k0 | k1
              · have hp := HPU.out k0
                subst k0
                have hw : wrap64 (putsS rn) = (cnt : Int) := by rw [hp]; exact IntWalk.wrap64_in _ ⟨by omega, by omega⟩
                rw [hw]
                clear hp hw HPU
                have bc : ((cnt : Int) == (cnt : Int)) = true := by simp
                go_wp2_with fail
                refine Calls.mono HSH.out ?_
                rintro e w4 ⟨rfl, hb4⟩
                have d1 := (hb4.cell (p := ⟨hb, 1, none⟩) lkd).trans hkd
                have ld1 := cell_lt d1
                have hb5 : Below w.heap.size w w4 := hb3.trans (hb4.mono hb3.size)
                clear HSH hb4
                go_wp2_with fail
                go_ret
                exact ⟨rfl, hb5⟩
              · subst k1
                generalize wrap64 (putsS rn) = z at *
                go_wp2_with fail
                refine Calls.mono HSH.out ?_
                rintro e w4 ⟨rfl, hb4⟩
                have d1 := (hb4.cell (p := ⟨hb, 1, none⟩) lkd).trans hkd
                have ld1 := cell_lt d1
                have hb5 : Below w.heap.size w w4 := hb3.trans (hb4.mono hb3.size)
                clear HSH hb4
                go_wp2_with fail
                go_ret
                exact ⟨rfl, hb5⟩
        · have bk : decide ((k : Int) < (n : Int)) = false := decide_eq_false (by omega)
          have hnd := hst.nodes (Below.refl _ _)
          have HST : Hid (KSt wr B hb c S P) := hst
          have HQO : Hid (QOk c S.L cnt lies) := hqo
          have hlr := hst.rel.shaped.len
          have c0 := hst.rep.t
          have l0 := cell_lt c0
          replace hnd : Hid _ := hnd
          clear hst hqo hrow hq H4 HQ0 HB r1 r2 r3 hbw hfew
          go_wp2_with fail
          refine Calls.mono hnd.out ?_
          rintro e w2 ⟨xn, l, rfl, hr, el, hb2⟩
          obtain ⟨aa, ca, ex, a1, a2, a3, _⟩ := ownsRow_cells hr.row
          subst ex
          have hll : l.length ≤ 64 := by have := congrArg List.length el; simp at this; omega
          have HEL : Hid (∀ j, (hj : j < l.length) → putsS ((rnodes S.L).take (j + 1)) = putsS ((rnodes S.L).take j) + (l[j]).1.puts) := by
            intro j hj
            have hl : l.length = (rnodes S.L).length := by rw [← el]; simp
            have hj' : j < (rnodes S.L).length := by omega
            rw [List.take_succ_eq_append_getElem hj', putsS_snoc]
            congr 2
            have := congrArg (fun z => z[j]?) el
            simp [hj] at this
            rw [List.getElem?_eq_getElem hj'] at this
            exact (Option.some.inj this).symm
          have HALL : Hid (putsS ((rnodes S.L).take l.length) = putsS (rnodes S.L)) := by
            show _ = _
            have hl : l.length = (rnodes S.L).length := by rw [← el]; simp
            rw [hl, List.take_length]
          have HSH : Hid _ := (HST.out.below hb2).shaped hr el
          have hkd := (HST.out.below hb2).confAt.1
          have hckd := HST.out.rel.rel.confs.1
          have HPU : Hid (c.kind = 0 → putsS (rnodes S.L) = (cnt : Int)) := fun e => HQO.out.puts HST.out.rel e
          have HR : Hid (NodesRep w2 wr.heap.size (.slice aa l.length ca) l) := hr
          have hb3 : Below w.heap.size w w2 := hbr.trans (hb2.mono hbr.size)
          have lkd := cell_lt hkd
          unfold maxLen at a2 a3
          clear hnd hr el hlr HST HQO hb2 hbr
          generalize rnodes S.L = rn at *
          generalize c.kind = ck at *
          go_wp2_with fail
          go_loopw [11, 13] (fun ss ii wx => wx = w2 ∧ ∃ j : Nat, j ≤ l.length ∧ ii = .int .i64 j ∧ ss = .int .i64 (wrap64 (putsS (rn.take j)))) (fun _ ii _ => l.length - (intOf ii).toNat)
          case atStart => exact ⟨rfl, 0, Nat.zero_le _, rfl, by simp [putsS, wrap64]⟩
          case round =>
            obtain ⟨rfl, j, hj, rfl, rfl⟩ := hrel
            by_cases hjl : j < l.length
            · obtain ⟨g, e1, l1, f⟩ := nodes_at HR.out j hjl
              have e3 := e1 _ _ _ rfl
              subst e3
              clear e1
              have HS : Hid _ := HEL.out j hjl
              have bj : decide ((j : Int) < (l.length : Int)) = true := decide_eq_true (by omega)
              have c9 : wr.cell? ⟨g, j * 12 + 9, none⟩ = some (I (l[j]).1.puts) := by rw [f 9 (by omega)]; rfl
              have lg := cell_lt c9
              clear f HEL HALL HSH HPU HR
              generalize (l[j]).1.puts = pu at *
              generalize putsS (rn.take j) = z at *
              go_wp2_with fail
              go_roundw
              case rel => exact ⟨by first | trivial | rfl, j + 1, by omega, by go_num, by rw [HS.out]; exact congrArg _ (wrap64_add2 _ _)⟩
              case measure => simp [intOf]; omega
            · have ej : j = l.length := by omega
              subst ej
              have bj : decide ((l.length : Int) < (l.length : Int)) = false := decide_eq_false (by omega)
              rw [HALL.out]
              clear HALL HEL HR
              generalize wr = w3 at *
              rcases hckd with k0 | k1
              · have hp := HPU.out k0
                subst k0
                have hw : wrap64 (putsS rn) = (cnt : Int) := by rw [hp]; exact IntWalk.wrap64_in _ ⟨by omega, by omega⟩
                rw [hw]
                clear hp hw HPU
                have bc : ((cnt : Int) == (cnt : Int)) = true := by simp
                go_wp2_with fail
                refine Calls.mono HSH.out ?_
                rintro e w4 ⟨rfl, hb4⟩
                have d1 := (hb4.cell (p := ⟨hb, 1, none⟩) lkd).trans hkd
                have ld1 := cell_lt d1
                have hb5 : Below w.heap.size w w4 := hb3.trans (hb4.mono hb3.size)
                clear HSH hb4
                go_wp2_with fail
                go_ret
                exact ⟨rfl, hb5⟩
              · subst k1
                generalize wrap64 (putsS rn) = z at *
                go_wp2_with fail
                refine Calls.mono HSH.out ?_
                rintro e w4 ⟨rfl, hb4⟩
                have d1 := (hb4.cell (p := ⟨hb, 1, none⟩) lkd).trans hkd
                have ld1 := cell_lt d1
                have hb5 : Below w.heap.size w w4 := hb3.trans (hb4.mono hb3.size)
                clear HSH hb4
                go_wp2_with fail
                go_ret
                exact ⟨rfl, hb5⟩

end Go.Proofs.Ytjnmpejcegmkhab

namespace Go.Proofs.Ytjnmpejcegmkhab
open Go.ChangeShapes Go.WideShapes Go.ChangeAt Go.RowKit Go.Joins

set_option maxRecDepth 100000 in
theorem queue_lifted (os : Os) (started : os.Started) (H : Type) (enc : TypeId × Value → H) :
    ReturnsInHanded {} Try.checked os 5 .any (Rows.queueSpec.pre6 enc Try.prog Try.f5 Rows.queueRow.domain false) (Rows.queueSpec.post enc Try.prog Try.f5 false true false false) := by
  refine returnsInHanded_of_change (C := Try.checked) ownK2 started (by kernel_rfl) Try.func5
    (ChangeSpec.witness6 (enc := enc) (C := Try.checked) false ⟨#[], #[.agg #[.int .i64 0, .int .i64 0, .int .i64 0, .int .i64 0, .int .i64 0, .int .i64 0, .int .i64 0, .int .i64 0], .slice none 0 0], []⟩ 8 (by kernel_rfl) (by kernel_rfl) (by kernel_rfl) (by kernel_rfl)) ?_
  intro W base args ds gs before hval0 hW _ _
  have hval : ∀ (j : Nat) t v, Try.f5.params[j]? = some t → args[j]? = some v → Value.okWide Try.prog W .any base t v := hval0
  have hW' := hW
  obtain ⟨p, q, hA0, hV, rfl, _, _⟩ := hW
  have hA : DataW.TrodAll enc Try.prog W 0 (fun _ => true) true Try.f5.params.toList args.toList ds p := hA0
  rw [Try.params5] at hA hval
  obtain ⟨v0, vs0, d0, ds0, p0, q0, hargs, rfl, rfl, h0, r0⟩ := trodAll_cons hA
  obtain ⟨v1, vs1, d1, ds1, p1, q1, rfl, rfl, rfl, h1, r1⟩ := trodAll_cons r0
  obtain ⟨rfl, rfl, rfl⟩ := trodAll_nil r1
  obtain rfl : args = #[v0, v1] := by cases args; simp_all
  obtain ⟨rfl, rfl⟩ := trodVars_none hV
  have k0 := h0
  have k1 := h1
  have lt0 : ∀ x ∈ p0, x.block < W.heap.size := by obtain ⟨m, hm⟩ := k0; exact DataW.trod_lt m _ _ _ hm
  have lt1 : ∀ x ∈ p1, x.block < W.heap.size := by obtain ⟨m, hm⟩ := k1; exact DataW.trod_lt m _ _ _ hm
  obtain ⟨c, rfl⟩ := conf_open2 (hval 0 23 v0 rfl rfl) h0
  obtain ⟨a2, len2, cap2, rfl⟩ := okWide_slice Try.underlying25 (hval 1 25 v1 rfl rfl)
  obtain ⟨pf, hpk⟩ := kpicks_open h1
  clear hA0 hval0
  refine (queue_walk c W _ len2 pf hpk).mono fun e W' ⟨he, bel⟩ => ?_
  subst he
  exact ⟨_, rfl, _, _, _, [], _, [], hW', trodAll_mk1 (shut_bool Try.underlying4 _), (trodAll_cons_mk (Below.trod laidOut2 (by kernel_rfl) (of_decide_eq_true (by kernel_rfl)) k0 bel lt0) (trodAll_cons_mk (Below.trod laidOut2 (by kernel_rfl) (of_decide_eq_true (by kernel_rfl)) k1 bel lt1) trodAll_mk0)), rfl, bel.frame _, fun h => by cases h⟩

theorem queue_holds : Rows.QueueSaid :=
  OpenClaim.holds_of_wide 5 Try.f5 rfl rfl rfl rfl rfl rfl rfl ⟨rfl, rfl, rfl, rfl, rfl⟩ rfl rfl rfl rfl rfl (by kernel_rfl) Try.func5 (by kernel_rfl)
    (of_decide_eq_true (by kernel_rfl)) (by unfold Func.isWrapper; first | (rw [if_pos (by decide +kernel)]; kernel_rfl) | (rw [if_neg (by decide +kernel)]; exact ⟨rfl, rfl⟩))
    (fun os started H enc _ => queue_lifted os started H enc)

#print axioms queue_holds
end Go.Proofs.Ytjnmpejcegmkhab
