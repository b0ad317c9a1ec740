/- The walk of the statement News: for every configuration the call answers true, and what was there is as it was. The walk of the statement Spawns. The walk of the statement Spawns: for every configuration and script the call answers true, and what was there is as it was. No statement of the seat is proved here. -/
import Derived.Test.YtjnmpejcegmkhaaNew1P
import Derived.Test.YtjnmpejcegmkhaaSpA
import Derived.Deep.QuietTactic
import Derived.BigQuiet
namespace Go.Proofs.Ytjnmpejcegmkhaa
open Go.RowKit

theorem RefRep.base {w : World} {B B' : Nat} {L : Lay} (h : RefRep w B L) (hb : B' ≤ B) : RefRep w B' L :=
  ⟨h.tree, Nat.le_trans hb h.treeB, ownsRow_mono h.prow hb, fun i hi => ⟨(h.pblk i hi).1, Nat.le_trans hb (h.pblk i hi).2⟩, h.pnd, ownsRow_mono h.hrow hb, fun i hi => ownsRow_mono (h.hist i hi) hb, fun i hi y hy => ownsRow_mono (h.items i hi y hy) hb, h.hnd⟩
theorem PRep.base {w : World} {B B' : Nat} {L : PLay} (h : PRep w B L) (hb : B' ≤ B) : PRep w B' L :=
  ⟨h.tree, Nat.le_trans hb h.treeB, h.len, ownsRow_mono h.prow hb, fun v hv => ownsRow_mono (h.items v hv) hb, h.ind⟩

set_option maxHeartbeats 4000000 in
theorem begin_no (c : Conf) (w : World) (h : mayC c = false) : Calls Try.prog 32 #[confV c] w fun e w' => e = .returned (.tuple #[.pointer none, .bool true]) ∧ Below w.heap.size w w' := by
  have h1 := fun W => pnew_no c W h
  have h2 := fun W => rnew_no c W h
  unfold confV at h1 h2 ⊢
  clear h
  replace h1 : Hid _ := h1
  replace h2 : Hid _ := h2
  go_enter Try.func32, Try.ntmps32
  go_wp2_with fail
  refine (h1.out _).mono ?_
  rintro e w1 ⟨rfl, hb1⟩
  have nb1 : w1.heap[w.heap.size]? = some (.cells #[I c.kind, I c.depth, I c.start, I c.slots, I c.width, I c.spin, I c.drain, I c.procs] 23 (0, 0)) := (hb1.block _ (by simp)).trans (nb_alloc _ _ _)
  have hb2 : Below w.heap.size w w1 := ((Below.refl _ _).alloc (Nat.le_refl _) _).trans (hb1.mono (by simp))
  clear hb1
  obtain ⟨f1, _⟩ := nb_facts nb1
  go_wp2_with fail
  refine (h2.out _).mono ?_
  rintro e w2 ⟨rfl, hb3⟩
  have hb4 := hb2.trans (hb3.mono hb2.size)
  clear f1 nb1 hb2 hb3 h1 h2
  go_wp2
  go_ret2
  exact ⟨rfl, hb4⟩

set_option maxHeartbeats 4000000 in
theorem begin_yes (c : Conf) (w : World) (h : mayC c = true) : Calls Try.prog 32 #[confV c] w fun e w' => ∃ lb L P, e = .returned (.tuple #[.pointer (some ⟨lb, 0, none⟩), .bool true]) ∧ RefRep w' w.heap.size L ∧ NewLay c L ∧ PRep w' w.heap.size P ∧ PNew c P ∧
    w'.heap[lb]? = some (.cells #[.pointer (some ⟨P.tb, 0, none⟩), .pointer (some ⟨L.tb, 0, none⟩), .slice none 0 0, .slice none 0 0, .slice none 0 0, I (-1000)] 103 (0, 0)) ∧ w.heap.size ≤ lb ∧ Below w.heap.size w w' := by
  have h1 := fun W => pnew_yes c W h
  have h2 := fun W => rnew_yes c W h
  unfold confV at h1 h2 ⊢
  clear h
  replace h1 : Hid _ := h1
  replace h2 : Hid _ := h2
  go_enter Try.func32, Try.ntmps32
  go_wp2_with fail
  refine (h1.out _).mono ?_
  rintro e w1 ⟨P, rfl, hp, hpn, hb1⟩
  have nb1 : w1.heap[w.heap.size]? = some (.cells #[I c.kind, I c.depth, I c.start, I c.slots, I c.width, I c.spin, I c.drain, I c.procs] 23 (0, 0)) := (hb1.block _ (by simp)).trans (nb_alloc _ _ _)
  have hb2 : Below w.heap.size w w1 := ((Below.refl _ _).alloc (Nat.le_refl _) _).trans (hb1.mono (by simp))
  clear hb1
  obtain ⟨f1, _⟩ := nb_facts nb1
  go_wp2_with fail
  refine (h2.out _).mono ?_
  rintro e w2 ⟨L, rfl, hr, hrn, hb3⟩
  have hb4 := hb2.trans (hb3.mono hb2.size)
  have hp2 := hp.below hb3
  clear f1 nb1 hb3 h1 h2 hp
  go_wp2
  go_ret2
  have nl := nb_alloc w2 #[.pointer (some ⟨P.tb, 0, none⟩), .pointer (some ⟨L.tb, 0, none⟩), .slice none 0 0, .slice none 0 0, .slice none 0 0, I (-1000)] 103
  have hba := (Below.refl w2.heap.size w2).alloc (Nat.le_refl _) (.cells #[.pointer (some ⟨P.tb, 0, none⟩), .pointer (some ⟨L.tb, 0, none⟩), .slice none 0 0, .slice none 0 0, .slice none 0 0, I (-1000)] 103)
  exact ⟨_, L, P, rfl, (hr.below hba).base hb2.size, hrn, (hp2.below hba).base (by simp), hpn, nl, hb4.size, hb4.alloc hb4.size _⟩

set_option maxHeartbeats 4000000 in
theorem plays_nil_no (c : Conf) (w : World) (h : mayC c = false) : Calls Try.prog 14 #[confV c, .slice none 0 0, .slice none 0 0] w fun e w' => e = .returned (.bool true) ∧ Below w.heap.size w w' := by
  have h1 := fun W => begin_no c W h
  unfold confV at h1 ⊢
  clear h
  replace h1 : Hid _ := h1
  go_enter Try.func14, Try.ntmps14
  go_wp2_with fail
  refine (h1.out _).mono ?_
  rintro e w1 ⟨rfl, hb1⟩
  have hb2 : Below w.heap.size w w1 := ((Below.refl _ _).alloc (Nat.le_refl _) _).trans (hb1.mono (by simp))
  clear hb1 h1
  go_wp2
  go_ret
  exact ⟨rfl, hb2⟩

set_option maxHeartbeats 4000000 in
theorem plays_nil_yes (c : Conf) (w : World) (h : mayC c = true) : Calls Try.prog 14 #[confV c, .slice none 0 0, .slice none 0 0] w fun e w' => e = .returned (.bool true) ∧ Below w.heap.size w w' := by
  have h1 := fun W => begin_yes c W h
  unfold confV at h1 ⊢
  have HM : Hid (mayC c = true) := h
  clear h
  replace h1 : Hid _ := h1
  go_enter Try.func14, Try.ntmps14
  go_wp2_with fail
  refine (h1.out _).mono ?_
  rintro e w1 ⟨lb, L, P, rfl, hr, hrn, hp, hpn, hlb, _, hb1⟩
  have hb2 : Below w.heap.size w w1 := ((Below.refl _ _).alloc (Nat.le_refl _) _).trans (hb1.mono (by simp))
  have hlaw : LawRep w1 lb (.pointer (some ⟨P.tb, 0, none⟩)) L.tb := ⟨⟨_, _, _, _, hlb⟩, ⟨_, _, rfl⟩⟩
  have hlen : 1 ≤ L.past.length := by rw [hrn.len]; exact Nat.two_pow_pos _
  have hag := agrees_c hlaw hr (newLay_ok hrn HM.out) hlen (new_agree HM.out hrn hpn hp hr)
  clear hb1 h1 hlb hlaw hr hrn hp hpn hlen
  go_wp2_with fail
  refine wp_loop_rounds 1 ?_
  rw [rounds_succ]
  go_wp2_with fail
  refine hag.mono ?_
  rintro e w2 ⟨rfl, hb3⟩
  go_wp2
  go_ret
  exact ⟨rfl, hb2.trans (hb3.mono hb2.size)⟩

set_option maxHeartbeats 4000000 in
theorem news_walk (c : Conf) (w : World) : Calls Try.prog 3 #[confV c] w fun e w' => e = .returned (.bool true) ∧ Below w.heap.size w w' := by
  have h1 : ∀ W, Calls Try.prog 14 #[confV c, .slice none 0 0, .slice none 0 0] W fun e w' => e = .returned (.bool true) ∧ Below W.heap.size W w' := by
    intro W
    cases h : mayC c
    · exact plays_nil_no c W h
    · exact plays_nil_yes c W h
  unfold confV at h1 ⊢
  replace h1 : Hid _ := h1
  go_enter Try.func3, Try.ntmps3
  go_wp2_with fail
  refine (h1.out _).mono ?_
  rintro e w1 ⟨rfl, hb1⟩
  go_wp2
  go_ret
  exact ⟨rfl, ((Below.refl _ _).alloc (Nat.le_refl _) _).trans (hb1.mono (by simp))⟩

/-- A script as it lies in memory: n steps of three numbers each. -/
structure ScriptAt (w : World) (v : Value) (n : Nat) (l : Nat → Int × Int × Int) : Prop where
  form : ∃ ao cap, v = .slice ao n cap ∧ n ≤ cap ∧ n ≤ maxLen ∧ ∀ i, i < n → ∃ b off, ao = some ⟨b, off, none⟩ ∧ b < w.heap.size ∧
    w.cell? ⟨b, off + i * 3, none⟩ = some (I (l i).1) ∧ w.cell? ⟨b, off + i * 3 + 1, none⟩ = some (I (l i).2.1) ∧ w.cell? ⟨b, off + i * 3 + 2, none⟩ = some (I (l i).2.2)

/-- One step of a script of which only Spawns, Proc and looks are played. -/
theorem step_any {w : World} {B : Nat} {c : Conf} {lb : Nat} {L : Lay} {P : PLay} (h : SpSt w B c lb L P) (k a b : Int) (hk : k = 1 ∨ k = 2 ∨ k = 3 ∨ k = 4 ∨ k = 5 ∨ k = 6 ∨ k = 7 ∨ k = 11) :
    Calls Try.prog 33 #[.pointer (some ⟨lb, 0, none⟩), .agg #[I k, I a, I b]] w fun e w' => e = .returned (.bool true) ∧ (∃ L' P', SpSt w' B c lb L' P') ∧ Below B w w' := by
  by_cases h7 : k = 7
  · subst h7
    exact (step_seven h a b).mono fun e w' ⟨he, hb⟩ => ⟨he, ⟨L, P, h.below hb⟩, hb.mono h.hB⟩
  · by_cases h11 : k = 11
    · subst h11
      exact (step_eleven h a b).mono fun e w' ⟨he, hb⟩ => ⟨he, ⟨L, P, h.below hb⟩, hb.mono h.hB⟩
    · exact step_spawn h k a b (by omega)

def isIn (ks : List Int) (k : Int) : Bool := ks.any fun x => x == k
def spKinds : List Int := [1, 2, 3, 4, 5, 6, 7, 11]
theorem isIn_succ (k : Int) (j : Nat) (hj : j < 8) : isIn (spKinds.take (j + 1)) k = (isIn (spKinds.take j) k || (spKinds.getD j 0 == k)) := by
  rw [take_succ_get spKinds j hj]
  simp only [isIn, List.any_append, List.any_cons, List.any_nil, Bool.or_false, List.getD_eq_getElem?_getD]
  rw [List.getElem?_eq_getElem hj]
  rfl
theorem isIn_all (k : Int) (h : isIn spKinds k = true) : k = 1 ∨ k = 2 ∨ k = 3 ∨ k = 4 ∨ k = 5 ∨ k = 6 ∨ k = 7 ∨ k = 11 := by
  simp [isIn, spKinds] at h
  omega
theorem kind_cell {w : World} {kb : Nat} (h : w.heap[kb]? = some (.cells #[I 1, I 2, I 3, I 4, I 5, I 6, I 7, I 11] 3 (0, 0))) (j : Nat) (hj : j < 8) : w.cell? ⟨kb, j, none⟩ = some (I (spKinds.getD j 0)) := by
  rw [block_cell h]
  have : j = 0 ∨ j = 1 ∨ j = 2 ∨ j = 3 ∨ j = 4 ∨ j = 5 ∨ j = 6 ∨ j = 7 := by omega
  rcases this with rfl | rfl | rfl | rfl | rfl | rfl | rfl | rfl <;> rfl

set_option maxHeartbeats 8000000 in
theorem plays_sp (c : Conf) (w : World) (h : mayC c = true) (v : Value) (n : Nat) (l : Nat → Int × Int × Int) (hs : ScriptAt w v n l) (kb : Nat) (hkb : w.heap[kb]? = some (.cells #[I 1, I 2, I 3, I 4, I 5, I 6, I 7, I 11] 3 (0, 0))) :
    Calls Try.prog 14 #[confV c, v, .slice (some ⟨kb, 0, none⟩) 8 8] w fun e w' => e = .returned (.bool true) ∧ Below w.heap.size w w' := by
  have h1 := fun W => begin_yes c W h
  unfold confV at h1 ⊢
  have HM : Hid (mayC c = true) := h
  clear h
  replace h1 : Hid _ := h1
  obtain ⟨ao, cap, rfl, n1, n2, hcell⟩ := hs.form
  unfold maxLen at n2
  clear hs
  have lk := (Array.getElem?_eq_some_iff.1 hkb).1
  go_enter Try.func14, Try.ntmps14
  go_wp2_with fail
  refine (h1.out _).mono ?_
  rintro e w1 ⟨lb, L, P, rfl, hr, hrn, hp, hpn, hlb, _, hb1⟩
  have hb2 : Below w.heap.size w w1 := ((Below.refl _ _).alloc (Nat.le_refl _) _).trans (hb1.mono (by simp))
  have hst : SpSt w1 w.heap.size c lb L P := ⟨hlb, hr.base (by simp), hp.base (by simp), ⟨HM.out, hrn.conf, hpn.conf, hrn.len, hrn.hist, hrn.hist0, hpn.nodes, by rw [hpn.procs, hrn.procs]; rfl, by rw [hrn.procs]; simp, by rw [hrn.procs]; have := HM.out; simp [mayC] at this; simp; omega, by rw [hrn.procs]; simp, fun i hi => by rw [hrn.procs] at hi; simp at hi⟩, hb2.size⟩
  clear hb1 h1 hlb hr hrn hp hpn
  go_wp2_with fail
  go_loopw [8, 9, 10, 11] (fun _ i _ _ wr => ∃ (k : Nat) (L : Lay) (P : PLay), k ≤ n ∧ i = .int .i64 k ∧ SpSt wr w.heap.size c lb L P ∧ Below w.heap.size w wr) (fun _ i _ _ _ => n - (intOf i).toNat)
  case atStart => exact ⟨0, L, P, Nat.zero_le _, rfl, hst, hb2⟩
  case round =>
    obtain ⟨k, L1, P1, hk, rfl, hst1, hbr⟩ := hrel
    by_cases hlt : k < n
    · obtain ⟨b, off, rfl, lbk, s0, s1, s2⟩ := hcell k hlt
      have t0 := (hbr.cell (p := ⟨b, off + k * 3, none⟩) lbk).trans s0
      have t1 := (hbr.cell (p := ⟨b, off + k * 3 + 1, none⟩) lbk).trans s1
      have t2 := (hbr.cell (p := ⟨b, off + k * 3 + 2, none⟩) lbk).trans s2
      have lb2 : b < wr.heap.size := Nat.lt_of_lt_of_le lbk hbr.size
      have hkr := (hbr.block kb lk).trans hkb
      have lk2 := (Array.getElem?_eq_some_iff.1 hkr).1
      have HKC : Hid (∀ j, j < 8 → wr.cell? ⟨kb, j, none⟩ = some (I (spKinds.getD j 0))) := fun j hj => kind_cell hkr j hj
      clear s0 s1 s2 hcell hkr
      generalize l k = q at *
      obtain ⟨kd, xa, xb⟩ := q
      simp only at t0 t1 t2
      go_wp2_with fail
      go_loopw [10, 11] (fun inn kk wr2 => ∃ j : Nat, j ≤ 8 ∧ kk = .int .i64 j ∧ inn = .bool (isIn (spKinds.take j) kd) ∧ Below wr.heap.size wr wr2) (fun _ kk _ => 8 - (intOf kk).toNat)
      case atStart => exact ⟨0, by omega, rfl, rfl, Below.refl _ _⟩
      case round =>
        obtain ⟨j, hj, rfl, rfl, hb3⟩ := hrel
        by_cases hj8 : j < 8
        · have hsu := isIn_succ kd j hj8
          have kc := (hb3.cell (p := ⟨kb, j, none⟩) lk2).trans (HKC.out j hj8)
          have tk := (hb3.cell (p := ⟨b, off + k * 3, none⟩) lb2).trans t0
          have hj8' : (j : Int) < 8 := by omega
          generalize spKinds.getD j 0 = kj at *
          cases hin : isIn (spKinds.take j) kd with
          | true =>
            rw [hin] at hsu
            have HS : Hid (isIn (spKinds.take (j + 1)) kd = true) := by rw [hsu]; rfl
            clear hsu hin
            go_wp2_with fail
            go_quiet (fail)
            go_wp2
            go_roundw
            case rel => exact ⟨j + 1, by omega, by go_num, by rw [HS.out], Below.drewN' hb3 _⟩
            case measure => simp [intOf]; omega
          | false =>
            rw [hin] at hsu
            have HS : Hid (isIn (spKinds.take (j + 1)) kd = (kj == kd)) := by rw [hsu]; rfl
            clear hsu hin
            go_wp2_with fail
            go_quiet (fail)
            go_wp2
            go_roundw
            case rel => exact ⟨j + 1, by omega, by go_num, by rw [HS.out], Below.drewN' hb3 _⟩
            case measure => simp [intOf]; omega
        · have e8 : j = 8 := by omega
          subst e8
          rw [show spKinds.take 8 = spKinds from rfl]
          have hst2 := hst1.below hb3
          have hb4 := hbr.trans (hb3.mono hbr.size)
          cases hin : isIn spKinds kd with
          | false =>
            clear hin
            go_wp2_with fail
            go_roundw
            case rel => exact ⟨k + 1, L1, P1, by omega, by go_num, hst2, hb4⟩
            case measure => simp [intOf]; omega
          | true =>
            have hsp := step_any hst2 kd xa xb (isIn_all kd hin)
            have u0 := (hb3.cell (p := ⟨b, off + k * 3, none⟩) lb2).trans t0
            have u1 := (hb3.cell (p := ⟨b, off + k * 3 + 1, none⟩) lb2).trans t1
            have u2 := (hb3.cell (p := ⟨b, off + k * 3 + 2, none⟩) lb2).trans t2
            clear hin t0 t1 t2 HKC hb3 hbr hst1
            go_wp2_with fail
            refine hsp.mono ?_
            rintro e w4 ⟨rfl, ⟨L2, P2, hst4⟩, hb5⟩
            have hlk := looks_c hst4.law
            have hb6 := hb4.trans hb5
            clear hb5 hsp u0 u1 u2 hst2 hb4
            go_wp2_with fail
            refine hlk.mono ?_
            rintro e w5 ⟨rfl, rfl⟩
            clear hlk
            go_wp2_with fail
            go_roundw
            case rel => exact ⟨k + 1, L2, P2, by omega, by go_num, hst4, hb6⟩
            case measure => simp [intOf]; omega
    · have hlen : 1 ≤ L1.past.length := by rw [hst1.rel.len]; exact Nat.two_pow_pos _
      have hag := agrees_c hst1.lawRep hst1.ref (sp_ok hst1.rel) hlen (sp_agree hst1.rel hst1.prog)
      go_wp2_with fail
      refine hag.mono ?_
      rintro e w2 ⟨rfl, hb3⟩
      go_wp2
      go_ret
      exact ⟨rfl, hbr.trans (hb3.mono hbr.size)⟩

set_option maxHeartbeats 4000000 in
theorem plays_no (c : Conf) (w : World) (h : mayC c = false) (ao ko : Option Addr) (n cap kn kc : Nat) : Calls Try.prog 14 #[confV c, .slice ao n cap, .slice ko kn kc] w fun e w' => e = .returned (.bool true) ∧ Below w.heap.size w w' := by
  have h1 := fun W => begin_no c W h
  unfold confV at h1 ⊢
  clear h
  replace h1 : Hid _ := h1
  go_enter Try.func14, Try.ntmps14
  go_wp2_with fail
  refine (h1.out _).mono ?_
  rintro e w1 ⟨rfl, hb1⟩
  have hb2 : Below w.heap.size w w1 := ((Below.refl _ _).alloc (Nat.le_refl _) _).trans (hb1.mono (by simp))
  clear hb1 h1
  go_wp2
  go_ret
  exact ⟨rfl, hb2⟩

theorem ScriptAt.below {w w' : World} {v : Value} {n : Nat} {l : Nat → Int × Int × Int} (h : ScriptAt w v n l) (hb : Below w.heap.size w w') : ScriptAt w' v n l := by
  obtain ⟨ao, cap, h1, h2, h3, h4⟩ := h.form
  refine ⟨⟨ao, cap, h1, h2, h3, fun i hi => ?_⟩⟩
  obtain ⟨b, off, e, lb, c0, c1, c2⟩ := h4 i hi
  exact ⟨b, off, e, Nat.lt_of_lt_of_le lb hb.size, (hb.cell (p := ⟨b, off + i * 3, none⟩) lb).trans c0, (hb.cell (p := ⟨b, off + i * 3 + 1, none⟩) lb).trans c1, (hb.cell (p := ⟨b, off + i * 3 + 2, none⟩) lb).trans c2⟩

set_option maxHeartbeats 4000000 in
theorem spawns_walk (c : Conf) (w : World) (v : Value) (n : Nat) (l : Nat → Int × Int × Int) (hs : ScriptAt w v n l) : Calls Try.prog 4 #[confV c, v] w fun e w' => e = .returned (.bool true) ∧ Below w.heap.size w w' := by
  have h1 : ∀ W kb, Below w.heap.size w W → W.heap[kb]? = some (.cells #[I 1, I 2, I 3, I 4, I 5, I 6, I 7, I 11] 3 (0, 0)) → Calls Try.prog 14 #[confV c, v, .slice (some ⟨kb, 0, none⟩) 8 8] W fun e w' => e = .returned (.bool true) ∧ Below W.heap.size W w' := by
    intro W kb hb hk
    cases h : mayC c
    · obtain ⟨ao, cap, e, _⟩ := hs.form
      rw [e]
      exact plays_no c W h _ _ _ _ _ _
    · exact plays_sp c W h v n l (hs.below hb) kb hk
  obtain ⟨ao, cap, rfl, _⟩ := hs.form
  unfold confV at h1 ⊢
  replace h1 : Hid _ := h1
  clear hs
  go_enter Try.func4, Try.ntmps4
  go_wp2_with fail
  have hb0 : Below w.heap.size w ((w.alloc (.cells #[I c.kind, I c.depth, I c.start, I c.slots, I c.width, I c.spin, I c.drain, I c.procs] 23)).alloc (.cells #[I 1, I 2, I 3, I 4, I 5, I 6, I 7, I 11] 3)) := ((Below.refl _ _).alloc (Nat.le_refl _) _).alloc (by simp) _
  refine (h1.out _ (w.heap.size + 1) hb0 (by
    have := nb_alloc (w.alloc (.cells #[I c.kind, I c.depth, I c.start, I c.slots, I c.width, I c.spin, I c.drain, I c.procs] 23)) #[I 1, I 2, I 3, I 4, I 5, I 6, I 7, I 11] 3
    simp only [World.size_alloc] at this
    exact this)).mono ?_
  rintro e w1 ⟨rfl, hb1⟩
  go_wp2
  go_ret
  exact ⟨rfl, hb0.trans (hb1.mono hb0.size)⟩

end Go.Proofs.Ytjnmpejcegmkhaa
