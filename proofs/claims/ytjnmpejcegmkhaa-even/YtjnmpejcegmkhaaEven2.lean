/- Contracts of package prismkeep's still and even. No statement of the seat is proved here. -/
import Derived.Test.YtjnmpejcegmkhaaEven1
import Derived.Deep.DeepCutAuto
import Derived.Deep.QuietTactic
import Derived.BigQuiet
namespace Go.Proofs.Ytjnmpejcegmkhaa
open Go.RowKit

set_option maxHeartbeats 8000000 in
set_option maxRecDepth 100000 in
theorem kstill_c {w : World} {B hb : Nat} {c : Conf} {S : Gh} {P : PLay} (h : KSt w B hb c S P) :
    Calls Try.prog 28 #[.pointer (some ⟨hb, 0, none⟩)] w fun e w' => (∃ b, e = .returned (.bool b) ∧ (b = true ↔ StillW S)) ∧ Below w.heap.size w w' := by
  have HAT : Hid (∀ W, Below w.heap.size w W → ∀ p, (hp : p < S.L.procs.length) → Calls Try.prog 44 #[.pointer (some ⟨hb, 0, none⟩), I p] W fun e w' => e = .returned (.agg #[I (S.L.procs[p]).2.phase, I (S.L.procs[p]).2.node, I (S.L.procs[p]).2.val]) ∧ Below W.heap.size W w') := fun W hw p hp => h.at hw p hp
  obtain ⟨ao9, cap9, c9, q1, q2, q3⟩ := h.opsAt
  obtain ⟨aw, cw, c10, w1, w2, HW⟩ := h.wentAt
  have hwl := h.of.wlen
  have l0 := cell_lt c9
  have HWW : Hid _ := HW
  unfold maxLen at q3 w2
  clear h HW
  go_enter Try.func28, Try.ntmps28
  go_wp2_with fail
  go_loopw [3, 4] (fun pp _ wr => ∃ q : Nat, q ≤ S.L.procs.length ∧ pp = .int .i64 q ∧ Hid (∀ p, (hp : p < S.L.procs.length) → (hp' : p < S.went.length) → p < q → S.went[p] = true → arrived (toPP (S.L.procs[p]).2)) ∧ Below w.heap.size w wr) (fun pp _ _ => S.L.procs.length - (intOf pp).toNat)
  case atStart => exact ⟨0, Nat.zero_le _, rfl, fun p _ _ x => absurd x (Nat.not_lt_zero _), Below.refl _ _⟩
  case round =>
    obtain ⟨q, hq, rfl, hin, hbr⟩ := hrel
    have d9 := (hbr.cell (p := ⟨hb, 9, none⟩) l0).trans c9
    have ld := cell_lt d9
    by_cases hlt : q < S.L.procs.length
    · have ha := HAT.out _ hbr q hlt
      have hqw : q < S.went.length := by omega
      obtain ⟨g, rfl, lg, cg⟩ := HWW.out q hqw
      have HMORE : Hid ((S.went[q] = true → arrived (toPP (S.L.procs[q]).2)) → ∀ p, (hp : p < S.L.procs.length) → (hp' : p < S.went.length) → p < q + 1 → S.went[p] = true → arrived (toPP (S.L.procs[p]).2)) := by
        intro hx p hp hp' hpq hwt
        by_cases e : p = q
        · subst e; exact hx hwt
        · exact hin.out p hp hp' (by omega) hwt
      have HNO : Hid (S.went[q] = true → ¬ arrived (toPP (S.L.procs[q]).2) → ¬ StillW S) := fun a b hs => b (hs q hlt hqw a)
      have HARR : Hid (arrived (toPP (S.L.procs[q]).2) ↔ ((S.L.procs[q]).2.phase = 13 ∨ (S.L.procs[q]).2.phase = 14 ∨ (S.L.procs[q]).2.phase = 19 ∨ (S.L.procs[q]).2.phase = 20)) := Iff.rfl
      generalize S.went[q] = wq at *
      generalize arrived (toPP (S.L.procs[q]).2) = arr at *
      generalize (S.L.procs[q]).2.phase = ph at *
      generalize (S.L.procs[q]).2.node = nd at *
      generalize (S.L.procs[q]).2.val = vl at *
      replace ha : Hid _ := ha
      have bq : decide ((q : Int) < (S.L.procs.length : Int)) = true := decide_eq_true (by omega)
      go_wp2_with fail
      refine Calls.mono ha.out ?_
      rintro e w3 ⟨rfl, hb3⟩
      have hb4 : Below w.heap.size w w3 := hbr.trans (hb3.mono hbr.size)
      have hb5 : Below w.heap.size w (w3.alloc (.cells #[I ph, I nd, I vl] 84)) := hb4.alloc hb4.size _
      have e10 := (hb5.cell (p := ⟨hb, 10, none⟩) l0).trans c10
      have cg5 := (hb5.cell (p := ⟨g, q, none⟩) lg).trans cg
      have l5 := cell_lt e10
      have lg5 := cell_lt cg5
      clear ha hb3 hb4 cg
      cases wq
      · go_wp2_with fail
        go_roundw
        case rel => exact ⟨q + 1, by omega, by go_num, HMORE.out (fun x => by cases x), hb5⟩
        case measure => simp [intOf]; omega
      · by_cases a1 : ph = 13
        · subst a1
          go_wp2_with fail
          go_roundw
          case rel => exact ⟨q + 1, by omega, by go_num, HMORE.out (fun _ => HARR.out.2 (by simp)), hb5⟩
          case measure => simp [intOf]; omega
        · have b1 : (ph != 13) = true := by rw [bne_iff_ne]; exact a1
          by_cases a2 : ph = 14
          · subst a2
            go_wp2_with fail
            go_roundw
            case rel => exact ⟨q + 1, by omega, by go_num, HMORE.out (fun _ => HARR.out.2 (by simp)), hb5⟩
            case measure => simp [intOf]; omega
          · have b2 : (ph != 14) = true := by rw [bne_iff_ne]; exact a2
            by_cases a3 : ph = 19
            · subst a3
              go_wp2_with fail
              go_roundw
              case rel => exact ⟨q + 1, by omega, by go_num, HMORE.out (fun _ => HARR.out.2 (by simp)), hb5⟩
              case measure => simp [intOf]; omega
            · have b3 : (ph != 19) = true := by rw [bne_iff_ne]; exact a3
              by_cases a4 : ph = 20
              · subst a4
                go_wp2_with fail
                go_roundw
                case rel => exact ⟨q + 1, by omega, by go_num, HMORE.out (fun _ => HARR.out.2 (by simp)), hb5⟩
                case measure => simp [intOf]; omega
              · have b4 : (ph != 20) = true := by rw [bne_iff_ne]; exact a4
                have HN : Hid (¬ StillW S) := HNO.out rfl (fun x => by rcases HARR.out.1 x with y | y | y | y; exact a1 y; exact a2 y; exact a3 y; exact a4 y)
                clear HMORE HNO HARR hin a1 a2 a3 a4
                go_wp2_with fail
                go_ret
                exact ⟨⟨false, rfl, ⟨fun x => (by cases x), fun x => absurd x HN.out⟩⟩, hb5⟩
    · have bq : decide ((q : Int) < (S.L.procs.length : Int)) = false := decide_eq_false (by omega)
      have HY : Hid (StillW S) := fun p hp hp' x => hin.out p hp hp' (by omega) x
      clear hin HAT HWW
      go_wp2_with fail
      go_ret
      exact ⟨⟨true, rfl, ⟨fun _ => HY.out, fun _ => rfl⟩⟩, hbr⟩

theorem leaf_share {w : World} {B hb : Nat} {c : Conf} {S : Gh} {P : PLay} (h : KSt w B hb c S P) (x : XOk c S.L) (hs : StillW S) (k : Nat) (hk : k < (rnodes S.L).length) (hleaf : ((rnodes S.L)[k]).inner = false) :
    ∃ d r : Nat, d ≤ 4 ∧ r ≤ 1000 ∧ ((rnodes S.L)[k]).depth = (d : Int) ∧ ((rnodes S.L)[k]).rank = (r : Int) ∧ (((rnodes S.L)[k]).puts - ((rnodes S.L)[k]).gets - 1) * 2 ^ d < goneTo S S.L.procs.length - r ∧ goneTo S S.L.procs.length - r ≤ (((rnodes S.L)[k]).puts - ((rnodes S.L)[k]).gets) * 2 ^ d ∧ -100000 ≤ ((rnodes S.L)[k]).puts ∧ ((rnodes S.L)[k]).puts ≤ 1000000 ∧ 0 ≤ ((rnodes S.L)[k]).gets ∧ ((rnodes S.L)[k]).gets ≤ 1000000 := by
  have hN := h.rel.rel.lenle
  obtain ⟨v, a, b, e⟩ := (rnodes_mem S.L _ _).1 (List.getElem_mem hk)
  have e' : (rnodes S.L)[k] = rnode S.L v := e
  have hv1 : 1 ≤ v := by have := b.1; omega
  have hf := (h.rel.rel.nodes v hv1 a).form
  rw [e', (rnode_num S.L v).2.2.2] at hleaf
  have hn1 : ¬ formH (S.L.hist v) = 1 := of_decide_eq_false hleaf
  have h2 : formH (S.L.hist v) = 2 := by have := b.2; omega
  have hsh := still_share h.rel (hs.still h) v hv1 a b.2
  rw [sub_leaf h.rel hv1 a h2, sub_all h.rel, gone_bal h x hs] at hsh
  have hl := log2_32 ⟨v, by omega⟩
  simp only at hl
  have hr : rank v ≤ 1000 := by
    have := ord_le ⟨v, by omega⟩ ⟨Nat.log2 v, by omega⟩
    have e2 := ord_end ⟨v, by omega⟩ hv1
    simp only at this e2
    omega
  have en : rnode S.L v = ⟨v, Nat.log2 v, rank v, false, shutL v S.L.procs, insideL v S.L.procs, 0, 0, [], putsH (S.L.hist v), manyH 7 (-1) (S.L.hist v), itemsH (S.L.hist v)⟩ := by unfold rnode; rw [if_neg hn1]
  have hb : balH (S.L.hist v) = putsH (S.L.hist v) - manyH 7 (-1) (S.L.hist v) := by unfold balH; rw [if_pos h2]
  rw [hb] at hsh
  have f1 := h.rel.rel.fn v a
  have f2 := h.rel.rel.hlen v a
  have f3 := manyH_le 6 (-1) (S.L.hist v)
  have f4 := manyH_le 7 (-1) (S.L.hist v)
  rw [e', en]
  refine ⟨Nat.log2 v, rank v, hl, hr, rfl, rfl, hsh.1, hsh.2, ?_, ?_, ?_, ?_⟩
  · show -100000 ≤ putsH (S.L.hist v); unfold putsH; omega
  · show putsH (S.L.hist v) ≤ 1000000; unfold putsH; omega
  · show (0 : Int) ≤ (manyH 7 (-1) (S.L.hist v) : Int); omega
  · show (manyH 7 (-1) (S.L.hist v) : Int) ≤ 1000000; omega

set_option maxHeartbeats 16000000 in
set_option maxRecDepth 100000 in
theorem keven_c {w : World} {B hb : Nat} {c : Conf} {S : Gh} {P : PLay} (h : KSt w B hb c S P) (x : XOk c S.L) (hs : StillW S) :
    Calls Try.prog 27 #[.pointer (some ⟨hb, 0, none⟩)] w fun e w' => e = .returned (.bool true) ∧ Below w.heap.size w w' := by
  obtain ⟨ao9, cap9, c9, q1, q2, q3, HO⟩ := h.opsAt2
  obtain ⟨aw, cw, c10, w1, w2, HW⟩ := h.wentAt
  have hwl := h.of.wlen
  have c0 := h.rep.t
  have l0 := cell_lt c9
  have hnd := h.nodes (Below.refl _ _)
  have HSH : Hid (∀ W, Below w.heap.size w W → ∀ b x l, NodesRep W b x l → l.map (fun y => y.1) = rnodes S.L → Calls Try.prog 23 #[.pointer (some ⟨hb, 0, none⟩), x] W fun e w' => e = .returned (.bool true) ∧ Below W.heap.size W w') := fun W hw b x l hr el => (h.below hw).shaped hr el
  have HLS : Hid (∀ k, (hk : k < (rnodes S.L).length) → ((rnodes S.L)[k]).inner = false → ∃ d r : Nat, d ≤ 4 ∧ r ≤ 1000 ∧ ((rnodes S.L)[k]).depth = (d : Int) ∧ ((rnodes S.L)[k]).rank = (r : Int) ∧ (((rnodes S.L)[k]).puts - ((rnodes S.L)[k]).gets - 1) * 2 ^ d < goneTo S S.L.procs.length - r ∧ goneTo S S.L.procs.length - r ≤ (((rnodes S.L)[k]).puts - ((rnodes S.L)[k]).gets) * 2 ^ d ∧ -100000 ≤ ((rnodes S.L)[k]).puts ∧ ((rnodes S.L)[k]).puts ≤ 1000000 ∧ 0 ≤ ((rnodes S.L)[k]).gets ∧ ((rnodes S.L)[k]).gets ≤ 1000000) := fun k hk hl => leaf_share h x hs k hk hl
  have HWW : Hid _ := HW
  have HOO : Hid _ := HO
  have hlr := h.rel.shaped.len
  replace hnd : Hid _ := hnd
  have HG : Hid (∀ k, (hk : k < S.L.procs.length) → (hk' : k < S.went.length) → goneTo S (k + 1) = goneTo S k + (if S.went[k] = true then sgn (S.L.procs[k]).2.kind else 0)) := by
    intro k hk hk'
    simp only [goneTo]
    simp [List.getD_eq_getElem?_getD, hk, hk']
  unfold maxLen at q3 w2
  clear h x hs HW HO
  go_enter Try.func27, Try.ntmps27
  go_wp2_with fail
  go_loop [3, 4] (fun nn pp => ∃ q : Nat, q ≤ S.L.procs.length ∧ nn = .int .i64 (goneTo S q) ∧ pp = .int .i64 q) (fun _ pp => S.L.procs.length - (intOf pp).toNat)
  case atStart => exact ⟨0, Nat.zero_le _, rfl, rfl⟩
  case round =>
    obtain ⟨q, hq, rfl, rfl⟩ := hrel
    have hgl := goneTo_le S q
    by_cases hlt : q < S.L.procs.length
    · have hqw : q < S.went.length := by omega
      obtain ⟨g, rfl, lg, cg⟩ := HWW.out q hqw
      obtain ⟨g9, rfl, lg9, cg9⟩ := HOO.out q hlt
      have HGq := HG.out q hlt hqw
      generalize S.went[q] = wq at *
      generalize (S.L.procs[q]).2.kind = kd at *
      generalize goneTo S q = gq at *
      have HGG : Hid _ := HGq
      clear HGq HG HLS HSH hnd HWW HOO
      have bq : decide ((q : Int) < (S.L.procs.length : Int)) = true := decide_eq_true (by omega)
      cases wq
      · have H2 : Hid (goneTo S (q + 1) = gq) := by show _ = _; rw [HGG.out]; simp
        clear HGG
        go_wp2_with fail
        go_round
        case rel => exact ⟨q + 1, by omega, int_of (by rw [H2.out]), by go_num⟩
        case measure => simp [intOf]; omega
      · by_cases k2 : kd = 2
        · subst k2
          have H2 : Hid (goneTo S (q + 1) = gq - 1) := by show _ = _; rw [HGG.out]; simp [sgn]; omega
          clear HGG
          go_wp2_with fail
          go_round
          case rel => exact ⟨q + 1, by omega, int_of (by rw [H2.out]), by go_num⟩
          case measure => simp [intOf]; omega
        · have b2 : (kd == 2) = false := by rw [beq_eq_false_iff_ne]; exact k2
          by_cases k0 : kd = 0
          · subst k0
            have H2 : Hid (goneTo S (q + 1) = gq + 1) := by show _ = _; rw [HGG.out]; simp [sgn]
            clear HGG
            go_wp2_with fail
            go_round
            case rel => exact ⟨q + 1, by omega, int_of (by rw [H2.out]), by go_num⟩
            case measure => simp [intOf]; omega
          · have b0 : (kd == 0) = false := by rw [beq_eq_false_iff_ne]; exact k0
            by_cases k1 : kd = 1
            · subst k1
              have H2 : Hid (goneTo S (q + 1) = gq + 1) := by show _ = _; rw [HGG.out]; simp [sgn]
              clear HGG
              go_wp2_with fail
              go_round
              case rel => exact ⟨q + 1, by omega, int_of (by rw [H2.out]), by go_num⟩
              case measure => simp [intOf]; omega
            · have b1 : (kd == 1) = false := by rw [beq_eq_false_iff_ne]; exact k1
              have H2 : Hid (goneTo S (q + 1) = gq) := by show _ = _; rw [HGG.out]; simp [sgn, k0, k1, k2]
              clear HGG
              go_wp2_with fail
              go_round
              case rel => exact ⟨q + 1, by omega, int_of (by rw [H2.out]), by go_num⟩
              case measure => simp [intOf]; omega
    · have eq : q = S.L.procs.length := by omega
      subst eq
      have bq : decide ((S.L.procs.length : Int) < (S.L.procs.length : Int)) = false := decide_eq_false (by omega)
      clear HG HWW HOO
      go_wp2_with fail
      refine Calls.mono hnd.out ?_
      rintro e w3 ⟨x, l, rfl, hr, el, hb3⟩
      have hsc := HSH.out _ hb3 _ _ _ hr el
      replace hsc : Hid _ := hsc
      obtain ⟨aa, ca, ex, a1, a2, a3, _⟩ := ownsRow_cells hr.row
      subst ex
      have hll : l.length ≤ 64 := by have := congrArg List.length el; simp at this; omega
      have HR3 : Hid _ := hr
      have HEL : Hid _ := el
      unfold maxLen at a2 a3
      clear hnd HSH hr el hlr
      go_wp2_with fail
      refine Calls.mono hsc.out ?_
      rintro e w4 ⟨rfl, hb4⟩
      have HR4 : Hid _ := HR3.out.below hb4 (Nat.le_refl _)
      have hbz := hb3.trans (hb4.mono hb3.size)
      clear hsc HR3 hb3 hb4
      generalize goneTo S S.L.procs.length = gn at *
      go_wp2_with fail
      go_loopw [7] (fun ii wr => ∃ k : Nat, k ≤ l.length ∧ ii = .int .i64 k ∧ Below w4.heap.size w4 wr) (fun ii _ => l.length - (intOf ii).toNat)
      case atStart => exact ⟨0, Nat.zero_le _, rfl, Below.refl _ _⟩
      case round =>
        obtain ⟨k, hk, rfl, hbr⟩ := hrel
        by_cases hlt2 : k < l.length
        · obtain ⟨g, e1, l1, f⟩ := nodes_at HR4.out k hlt2
          have e3 := e1 _ _ _ rfl
          subst e3
          clear e1
          have hdk : ∃ hk' : k < (rnodes S.L).length, (rnodes S.L)[k] = (l[k]).1 := by
            have e := HEL.out
            have hl : l.length = (rnodes S.L).length := by rw [← e]; simp
            refine ⟨by omega, ?_⟩
            have := congrArg (fun z => z[k]?) e
            simp [hlt2] at this
            rw [List.getElem?_eq_getElem (by omega)] at this
            exact (Option.some.inj this).symm
          obtain ⟨hk', hdk⟩ := hdk
          have hls := HLS.out k hk'
          rw [hdk] at hls
          clear hdk
          generalize l[k] = y at *
          obtain ⟨d, wv, iv⟩ := y
          obtain ⟨num, dep, rk, inner, sh, ins, tog, wid, wt, pu, ge, its⟩ := d
          simp only at f hls
          have F := fun j hj => (hbr.cell (p := ⟨g, k * 12 + j, none⟩) l1).trans (f j hj)
          have p1 := F 1 (by omega); have p2 := F 2 (by omega); have p3 := F 3 (by omega); have p9 := F 9 (by omega); have p10 := F 10 (by omega)
          simp only [ndCells] at p1 p2 p3 p9 p10
          have lg := cell_lt p1
          have bk : decide ((k : Int) < (l.length : Int)) = true := decide_eq_true (by omega)
          clear F f HEL HR4 HLS
          cases inner
          · obtain ⟨d, r, hd, hr, rfl, rfl, s1, s2, s3, s4, s5, s6⟩ := hls rfl
            have hup := fun W => kup_c (gn - r) (pu - ge) d hd s1 s2 (by omega) W
            replace hup : Hid _ := hup
            clear hls s1 s2
            have hw64 : wrap64 (2 ^ d) = ((2 ^ d : Nat) : Int) := by
              have e : (2 ^ d : Int) = ((2 ^ d : Nat) : Int) := by push_cast; rfl
              have hp : 2 ^ d ≤ 2 ^ 4 := Nat.pow_le_pow_right (by omega) hd
              rw [e]
              generalize (2 : Nat) ^ d = z at *
              exact IntWalk.wrap64_in _ ⟨by omega, by omega⟩
            have HSUB : ((pu - ge) != (pu - ge)) = false := by simp
            go_wp2_with fail
            go_quiet (first | (go_at_call 52; rw [hw64]; exact Calls.quiet_of_same (hup.out _)) | (go_at_call 52; exact Calls.quiet_of_same (hup.out _)))
            go_wp2_with fail
            go_roundw
            case rel => exact ⟨k + 1, by omega, by go_num, Below.drewN' hbr _⟩
            case measure => simp [intOf]; omega
          · clear hls
            go_wp2_with fail
            go_quiet (fail)
            go_wp2_with fail
            go_roundw
            case rel => exact ⟨k + 1, by omega, by go_num, Below.drewN' hbr _⟩
            case measure => simp [intOf]; omega
        · have bk : decide ((k : Int) < (l.length : Int)) = false := decide_eq_false (by omega)
          clear HLS HEL HR4
          go_wp2_with fail
          go_ret
          exact ⟨rfl, hbz.trans (hbr.mono hbz.size)⟩

end Go.Proofs.Ytjnmpejcegmkhaa
