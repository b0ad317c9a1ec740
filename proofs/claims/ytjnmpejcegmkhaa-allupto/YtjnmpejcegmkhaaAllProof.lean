/- The walk of the statement News: for every configuration the call answers true, and what was there is as it was. The walk of the statement Spawns. The walk of the statement Spawns: for every configuration and script the call answers true, and what was there is as it was. No statement of the seat is proved here. The state of a script where lists are kept, whatever blocks are another's; one step of the script. No statement of the seat is proved here. The walk of the statement All: for every configuration and every script of up to a million steps the call answers true, and what was there is as it was. No statement of the seat is proved here. The statement AllUpto: for every configuration (any eight numbers) and every script (any list of steps, raw) that hold together at most 1048576 values, the call of prismlaw.All returns true, and its arguments read as they did before. -/
import Derived.Test.YtjnmpejcegmkhaaCInv
import Derived.Deep.QuietTactic
import Derived.BigQuiet
import Derived.Test.YtjnmpejcegmkhaaA5
import Derived.Test.YtjnmpejcegmkhaaA8
import Derived.Test.YtjnmpejcegmkhaaRows
import Derived.WalkKit
import Derived.ProofKit
import Derived.OpenShut
import Derived.Carry
import Derived.JoinedCond
import Derived.Lib.SmallJoins
import Derived.Deep.Slices
namespace Go.Proofs.Ytjnmpejcegmkhaa
open Go.RowKit
variable {Fr : Nat → Prop}

theorem RefRep.base {w : World} {B B' : Nat} {L : Lay} (h : RefRep Fr w B L) (hb : B' ≤ B) : RefRep Fr w B' L :=
  ⟨h.tree, Nat.le_trans hb h.treeB, ownsRow_mono h.prow hb, fun i hi => ⟨(h.pblk i hi).1, Nat.le_trans hb (h.pblk i hi).2⟩, h.pnd, ownsRow_mono h.hrow hb, fun i hi => ownsRow_mono (h.hist i hi) hb, fun i hi y hy => ownsRow_mono (h.items i hi y hy) hb, h.hnd, h.far⟩
theorem PRep.base {w : World} {B B' : Nat} {L : PLay} (h : PRep w B L) (hb : B' ≤ B) : PRep w B' L :=
  ⟨h.tree, Nat.le_trans hb h.treeB, h.len, ownsRow_mono h.prow hb, fun v hv => ownsRow_mono (h.items v hv) hb, h.ind⟩

set_option maxHeartbeats 4000000 in
theorem begin_no (c : Conf) (w : World) (h : mayC c = false) : Calls Try.prog 32 #[confV c] w fun e w' => e = .returned (.tuple #[.pointer none, .bool true]) ∧ Below w.heap.size w w' := by
  have h1 := fun W => pnew_no c W h
  have h2 := fun W => rnew_no c W h
  unfold confV at h1 h2 ⊢
  clear h
  replace h1 : Hid _ := h1
  replace h2 : Hid _ := h2
  go_enter Try.func32, Try.ntmps32
  go_wp2_with fail
  refine (h1.out _).mono ?_
  rintro e w1 ⟨rfl, hb1⟩
  have nb1 : w1.heap[w.heap.size]? = some (.cells #[I c.kind, I c.depth, I c.start, I c.slots, I c.width, I c.spin, I c.drain, I c.procs] 23 (0, 0)) := (hb1.block _ (by simp)).trans (nb_alloc _ _ _)
  have hb2 : Below w.heap.size w w1 := ((Below.refl _ _).alloc (Nat.le_refl _) _).trans (hb1.mono (by simp))
  clear hb1
  obtain ⟨f1, _⟩ := nb_facts nb1
  go_wp2_with fail
  refine (h2.out _).mono ?_
  rintro e w2 ⟨rfl, hb3⟩
  have hb4 := hb2.trans (hb3.mono hb2.size)
  clear f1 nb1 hb2 hb3 h1 h2
  go_wp2
  go_ret2
  exact ⟨rfl, hb4⟩

set_option maxHeartbeats 4000000 in
theorem begin_yes (c : Conf) (w : World) (h : mayC c = true) (hF : ∀ k, Fr k → k < w.heap.size) : Calls Try.prog 32 #[confV c] w fun e w' => ∃ lb L P, e = .returned (.tuple #[.pointer (some ⟨lb, 0, none⟩), .bool true]) ∧ RefRep Fr w' w.heap.size L ∧ NewLay c L ∧ PRep w' w.heap.size P ∧ PNew c P ∧
    w'.heap[lb]? = some (.cells #[.pointer (some ⟨P.tb, 0, none⟩), .pointer (some ⟨L.tb, 0, none⟩), .slice none 0 0, .slice none 0 0, .slice none 0 0, I (-1000)] 103 (0, 0)) ∧ w.heap.size ≤ lb ∧ Below w.heap.size w w' := by
  have h1 := fun W => pnew_yes c W h
  have h2 := fun W (hw : w.heap.size ≤ W.heap.size) => rnew_yes c W h (fun k hk => Nat.lt_of_lt_of_le (hF k hk) hw)
  clear hF
  unfold confV at h1 h2 ⊢
  clear h
  replace h1 : Hid _ := h1
  replace h2 : Hid _ := h2
  go_enter Try.func32, Try.ntmps32
  go_wp2_with fail
  refine (h1.out _).mono ?_
  rintro e w1 ⟨P, rfl, hp, hpn, hb1⟩
  have nb1 : w1.heap[w.heap.size]? = some (.cells #[I c.kind, I c.depth, I c.start, I c.slots, I c.width, I c.spin, I c.drain, I c.procs] 23 (0, 0)) := (hb1.block _ (by simp)).trans (nb_alloc _ _ _)
  have hb2 : Below w.heap.size w w1 := ((Below.refl _ _).alloc (Nat.le_refl _) _).trans (hb1.mono (by simp))
  clear hb1
  obtain ⟨f1, _⟩ := nb_facts nb1
  go_wp2_with fail
  refine (h2.out _ hb2.size).mono ?_
  rintro e w2 ⟨L, rfl, hr, hrn, hb3⟩
  have hb4 := hb2.trans (hb3.mono hb2.size)
  have hp2 := hp.below hb3
  clear f1 nb1 hb3 h1 h2 hp
  go_wp2
  go_ret2
  have nl := nb_alloc w2 #[.pointer (some ⟨P.tb, 0, none⟩), .pointer (some ⟨L.tb, 0, none⟩), .slice none 0 0, .slice none 0 0, .slice none 0 0, I (-1000)] 103
  have hba := (Below.refl w2.heap.size w2).alloc (Nat.le_refl _) (.cells #[.pointer (some ⟨P.tb, 0, none⟩), .pointer (some ⟨L.tb, 0, none⟩), .slice none 0 0, .slice none 0 0, .slice none 0 0, I (-1000)] 103)
  exact ⟨_, L, P, rfl, (hr.below hba).base hb2.size, hrn, (hp2.below hba).base (by simp), hpn, nl, hb4.size, hb4.alloc hb4.size _⟩

/-- A script as it lies in memory: n steps of three numbers each. -/
structure ScriptAt (w : World) (v : Value) (n : Nat) (l : Nat → Int × Int × Int) : Prop where
  form : ∃ ao cap, v = .slice ao n cap ∧ n ≤ cap ∧ n ≤ maxLen ∧ ∀ i, i < n → ∃ b off, ao = some ⟨b, off, none⟩ ∧ b < w.heap.size ∧
    w.cell? ⟨b, off + i * 3, none⟩ = some (I (l i).1) ∧ w.cell? ⟨b, off + i * 3 + 1, none⟩ = some (I (l i).2.1) ∧ w.cell? ⟨b, off + i * 3 + 2, none⟩ = some (I (l i).2.2)

def isIn (ks : List Int) (k : Int) : Bool := ks.any fun x => x == k
set_option maxHeartbeats 4000000 in
theorem plays_no (c : Conf) (w : World) (h : mayC c = false) (ao ko : Option Addr) (n cap kn kc : Nat) : Calls Try.prog 14 #[confV c, .slice ao n cap, .slice ko kn kc] w fun e w' => e = .returned (.bool true) ∧ Below w.heap.size w w' := by
  have h1 := fun W => begin_no c W h
  unfold confV at h1 ⊢
  clear h
  replace h1 : Hid _ := h1
  go_enter Try.func14, Try.ntmps14
  go_wp2_with fail
  refine (h1.out _).mono ?_
  rintro e w1 ⟨rfl, hb1⟩
  have hb2 : Below w.heap.size w w1 := ((Below.refl _ _).alloc (Nat.le_refl _) _).trans (hb1.mono (by simp))
  clear hb1 h1
  go_wp2
  go_ret
  exact ⟨rfl, hb2⟩

theorem ScriptAt.below {w w' : World} {v : Value} {n : Nat} {l : Nat → Int × Int × Int} (h : ScriptAt w v n l) (hb : Below w.heap.size w w') : ScriptAt w' v n l := by
  obtain ⟨ao, cap, h1, h2, h3, h4⟩ := h.form
  refine ⟨⟨ao, cap, h1, h2, h3, fun i hi => ?_⟩⟩
  obtain ⟨b, off, e, lb, c0, c1, c2⟩ := h4 i hi
  exact ⟨b, off, e, Nat.lt_of_lt_of_le lb hb.size, (hb.cell (p := ⟨b, off + i * 3, none⟩) lb).trans c0, (hb.cell (p := ⟨b, off + i * 3 + 1, none⟩) lb).trans c1, (hb.cell (p := ⟨b, off + i * 3 + 2, none⟩) lb).trans c2⟩

end Go.Proofs.Ytjnmpejcegmkhaa

namespace Go.Proofs.Ytjnmpejcegmkhaa
open Go.RowKit

/-- Nothing is kept yet. -/
def noKp : Kp := ⟨.slice none 0 0, .slice none 0 0, .slice none 0 0, -1000, [], [], [], []⟩

/-- Both trees and what is kept. -/
def AStx (w : World) (B : Nat) (c : Conf) (lb : Nat) (K : Kp) : Prop := ∃ (Fr : Nat → Prop) (L : Lay) (P : PLay), ASt Fr w B c lb L P K

theorem AStx.below {w w' : World} {B : Nat} {c : Conf} {lb : Nat} {K : Kp} (h : AStx w B c lb K) (hb : Below w.heap.size w w') : AStx w' B c lb K := by
  obtain ⟨Fr, L, P, h⟩ := h
  exact ⟨Fr, L, P, h.below hb⟩
theorem AStx.base {w : World} {B B' : Nat} {c : Conf} {lb : Nat} (h : AStx w B c lb noKp) (hb : B' ≤ B) : AStx w B' c lb noKp := by
  obtain ⟨Fr, L, P, h⟩ := h
  exact ⟨Fr, L, P, ⟨h.ak.law, Nat.le_trans hb h.ak.hlb, World.ownsRow_nil _ _ _ _, World.ownsRow_nil _ _ _ _, rfl, fun i hi => absurd hi (by simp [noKp]), fun x hx => absurd hx (by simp [noKp]), World.ownsRow_nil _ _ _ _, rfl, fun i hi => absurd hi (by simp [noKp]), fun m hm => absurd hm (by simp [noKp])⟩, h.ref.base hb, h.prog.base hb, h.rel, Nat.le_trans hb h.hB, h.mF⟩
theorem AStx.looks {w : World} {B : Nat} {c : Conf} {lb : Nat} {K : Kp} (h : AStx w B c lb K) : Calls Try.prog 34 #[.pointer (some ⟨lb, 0, none⟩)] w fun e w' => e = .returned (.bool true) ∧ Below w.heap.size w w' := by
  obtain ⟨Fr, L, P, h⟩ := h
  exact alooks_c h.ak
theorem AStx.agrees {w : World} {B : Nat} {c : Conf} {lb : Nat} {K : Kp} (h : AStx w B c lb K) : Calls Try.prog 35 #[.pointer (some ⟨lb, 0, none⟩)] w fun e w' => e = .returned (.bool true) ∧ Below w.heap.size w w' := by
  obtain ⟨Fr, L, P, h⟩ := h
  have hlen : 1 ≤ L.past.length := by have := h.rel.rel.lenle; omega
  exact agrees_c h.lawRep h.ref h.rel.rel.ok hlen (h.rel.rel.agree h.rel.ck.si h.prog)

/-- One step of a script of which everything is played. -/
theorem AStx.step {w : World} {B : Nat} {c : Conf} {lb : Nat} {K : Kp} (h : AStx w B c lb K) (j : Nat) (hj : j ≤ 1048576) (hkb : KB K j) (k a b : Int) (hk : isIn [1, 2, 3, 4, 5, 6, 7, 8, 9, 10, 11] k = true) :
    Calls Try.prog 33 #[.pointer (some ⟨lb, 0, none⟩), .agg #[I k, I a, I b]] w fun e w' => e = .returned (.bool true) ∧ (∃ K', AStx w' B c lb K' ∧ KB K' (j + 1)) ∧ Below B w w' := by
  obtain ⟨Fr, L, P, h⟩ := h
  have hk1 := hkb.mono (Nat.le_succ j)
  have hk' : k = 1 ∨ k = 2 ∨ k = 3 ∨ k = 4 ∨ k = 5 ∨ k = 6 ∨ k = 7 ∨ k = 8 ∨ k = 9 ∨ k = 10 ∨ k = 11 := by simp [isIn] at hk; omega
  by_cases h7 : k = 7
  · subst h7
    exact (astep_seven h a b).mono fun e w' ⟨he, hb⟩ => ⟨he, ⟨K, ⟨Fr, L, P, h.below hb⟩, hk1⟩, hb.mono h.hB⟩
  by_cases h11 : k = 11
  · subst h11
    exact (astep_eleven h a b).mono fun e w' ⟨he, hb⟩ => ⟨he, ⟨K, ⟨Fr, L, P, h.below hb⟩, hk1⟩, hb.mono h.hB⟩
  by_cases h9 : k = 9
  · subst h9
    exact (astep_rest h a b).mono fun e w' ⟨he, ⟨L', P', hst⟩, hb⟩ => ⟨he, ⟨K, ⟨Fr, L', P', hst⟩, hk1⟩, hb⟩
  by_cases h8 : k = 8
  · subst h8
    exact (astep_step h a b).mono fun e w' ⟨he, ⟨L', P', hst⟩, hb⟩ => ⟨he, ⟨K, ⟨Fr, L', P', hst⟩, hk1⟩, hb⟩
  by_cases h10 : k = 10
  · subst h10
    exact (astep_ten h j hj hkb a b).mono fun e w' ⟨he, ⟨Fr', K', hst, hk2⟩, hb⟩ => ⟨he, ⟨K', ⟨Fr', L, P, hst⟩, hk2⟩, hb⟩
  · exact (astep_spawn h k a b (by omega)).mono fun e w' ⟨he, ⟨L', P', hst⟩, hb⟩ => ⟨he, ⟨K, ⟨Fr, L', P', hst⟩, hk1⟩, hb⟩

theorem abegin_yes (c : Conf) (w : World) (h : mayC c = true) : Calls Try.prog 32 #[confV c] w fun e w' => ∃ lb, e = .returned (.tuple #[.pointer (some ⟨lb, 0, none⟩), .bool true]) ∧ AStx w' w.heap.size c lb noKp ∧ Below w.heap.size w w' := by
  refine (begin_yes (Fr := fun _ => False) c w h (fun k hk => False.elim hk)).mono ?_
  rintro e w' ⟨lb, L, P, he, hr, hrn, hp, hpn, hlb, hB, hb⟩
  refine ⟨lb, he, ⟨fun _ => False, L, P, ⟨⟨hlb, hB, World.ownsRow_nil _ _ _ _, World.ownsRow_nil _ _ _ _, rfl, fun i hi => absurd hi (by simp [noKp]), fun x hx => absurd hx (by simp [noKp]), World.ownsRow_nil _ _ _ _, rfl, fun i hi => absurd hi (by simp [noKp]), fun m hm => absurd hm (by simp [noKp])⟩, hr, hp, crel_new h hrn hpn hp.len, hb.size, fun g hg => by simp [noKp, Value.ownBlock] at hg⟩⟩, hb⟩

end Go.Proofs.Ytjnmpejcegmkhaa

namespace Go.Proofs.Ytjnmpejcegmkhaa
open Go.RowKit
variable {Fr : Nat → Prop}

theorem isIn_take (ks : List Int) (k : Int) (j : Nat) (hj : j < ks.length) : isIn (ks.take (j + 1)) k = (isIn (ks.take j) k || (ks.getD j 0 == k)) := by
  rw [take_succ_get ks j hj]
  simp only [isIn, List.any_append, List.any_cons, List.any_nil, Bool.or_false, List.getD_eq_getElem?_getD]
  rw [List.getElem?_eq_getElem hj]
  rfl
theorem ks_cell {ks : List Int} {w : World} {kb : Nat} (h : w.heap[kb]? = some (.cells (ks.map I).toArray 3 (0, 0))) (j : Nat) (hj : j < ks.length) : w.cell? ⟨kb, j, none⟩ = some (I (ks.getD j 0)) := by
  rw [block_cell h]
  simp [List.getD_eq_getElem?_getD, List.getElem?_eq_getElem hj]

set_option maxHeartbeats 8000000 in
theorem plays_all (ks : List Int) (hks : ks.length ≤ 100) (HSP : ∀ (w : World) (B : Nat) (c : Conf) (lb : Nat) (K : Kp), AStx w B c lb K → ∀ j, j ≤ 1048576 → KB K j → ∀ k a b : Int, isIn ks k = true → Calls Try.prog 33 #[.pointer (some ⟨lb, 0, none⟩), .agg #[I k, I a, I b]] w fun e w' => e = .returned (.bool true) ∧ (∃ K', AStx w' B c lb K' ∧ KB K' (j + 1)) ∧ Below B w w')
    (c : Conf) (w : World) (h : mayC c = true) (v : Value) (n : Nat) (hn6 : n ≤ 1048576) (l : Nat → Int × Int × Int) (hs : ScriptAt w v n l) (kb : Nat) (hkb : w.heap[kb]? = some (.cells (ks.map I).toArray 3 (0, 0))) :
    Calls Try.prog 14 #[confV c, v, .slice (some ⟨kb, 0, none⟩) ks.length ks.length] w fun e w' => e = .returned (.bool true) ∧ Below w.heap.size w w' := by
  have h1 := fun W => abegin_yes c W h
  replace HSP : Hid _ := HSP
  have HIS : Hid (∀ kd j, j < ks.length → isIn (ks.take (j + 1)) kd = (isIn (ks.take j) kd || (ks.getD j 0 == kd))) := fun kd j hj => isIn_take ks kd j hj
  have HKB : Hid (∀ W : World, W.heap[kb]? = some (.cells (ks.map I).toArray 3 (0, 0)) → ∀ j, j < ks.length → W.cell? ⟨kb, j, none⟩ = some (I (ks.getD j 0))) := fun W hW j hj => ks_cell hW j hj
  have HTA : Hid (∀ kd, isIn (ks.take ks.length) kd = isIn ks kd) := fun kd => by show _ = _; rw [List.take_length]
  generalize hm : ks.length = m at *
  unfold confV at h1 ⊢
  clear h
  replace h1 : Hid _ := h1
  obtain ⟨ao, cap, rfl, n1, n2, hcell⟩ := hs.form
  unfold maxLen at n2
  clear hs
  have lk := (Array.getElem?_eq_some_iff.1 hkb).1
  go_enter Try.func14, Try.ntmps14
  go_wp2_with fail
  refine (h1.out _).mono ?_
  rintro e w1 ⟨lb, rfl, hst0, hb1⟩
  have hb2 : Below w.heap.size w w1 := ((Below.refl _ _).alloc (Nat.le_refl _) _).trans (hb1.mono (by simp))
  have hst : AStx w1 w.heap.size c lb noKp := hst0.base (by simp)
  clear hb1 h1 hst0
  go_wp2_with fail
  go_loopw [8, 9, 10, 11] (fun _ i _ _ wr => ∃ (k : Nat) (K : Kp), k ≤ n ∧ i = .int .i64 k ∧ AStx wr w.heap.size c lb K ∧ KB K k ∧ Below w.heap.size w wr) (fun _ i _ _ _ => n - (intOf i).toNat)
  case atStart => exact ⟨0, noKp, Nat.zero_le _, rfl, hst, ⟨by simp [noKp], by simp [noKp], by simp [noKp], by simp [noKp]⟩, hb2⟩
  case round =>
    obtain ⟨k, K1, hk, rfl, hst1, hkb1, hbr⟩ := hrel
    replace hkb1 : Hid _ := hkb1
    by_cases hlt : k < n
    · obtain ⟨b, off, rfl, lbk, s0, s1, s2⟩ := hcell k hlt
      have t0 := (hbr.cell (p := ⟨b, off + k * 3, none⟩) lbk).trans s0
      have t1 := (hbr.cell (p := ⟨b, off + k * 3 + 1, none⟩) lbk).trans s1
      have t2 := (hbr.cell (p := ⟨b, off + k * 3 + 2, none⟩) lbk).trans s2
      have lb2 : b < wr.heap.size := Nat.lt_of_lt_of_le lbk hbr.size
      have hkr := (hbr.block kb lk).trans hkb
      have lk2 := (Array.getElem?_eq_some_iff.1 hkr).1
      have HKC : Hid (∀ j, j < m → wr.cell? ⟨kb, j, none⟩ = some (I (ks.getD j 0))) := HKB.out wr hkr
      clear s0 s1 s2 hcell hkr
      generalize l k = q at *
      obtain ⟨kd, xa, xb⟩ := q
      simp only at t0 t1 t2
      go_wp2_with fail
      go_loopw [10, 11] (fun inn kk wr2 => ∃ j : Nat, j ≤ m ∧ kk = .int .i64 j ∧ inn = .bool (isIn (ks.take j) kd) ∧ Below wr.heap.size wr wr2) (fun _ kk _ => m - (intOf kk).toNat)
      case atStart => exact ⟨0, by omega, rfl, rfl, Below.refl _ _⟩
      case round =>
        obtain ⟨j, hj, rfl, rfl, hb3⟩ := hrel
        by_cases hj8 : j < m
        · have hsu := HIS.out kd j hj8
          have kc := (hb3.cell (p := ⟨kb, j, none⟩) lk2).trans (HKC.out j hj8)
          have tk := (hb3.cell (p := ⟨b, off + k * 3, none⟩) lb2).trans t0
          have hj8' : (j : Int) < m := by omega
          generalize ks.getD j 0 = kj at *
          cases hin : isIn (ks.take j) kd with
          | true =>
            rw [hin] at hsu
            have HS : Hid (isIn (ks.take (j + 1)) kd = true) := by rw [hsu]; rfl
            clear hsu hin
            go_wp2_with fail
            go_quiet (fail)
            go_wp2
            go_roundw
            case rel => exact ⟨j + 1, by omega, by go_num, by rw [HS.out], Below.drewN' hb3 _⟩
            case measure => simp [intOf]; omega
          | false =>
            rw [hin] at hsu
            have HS : Hid (isIn (ks.take (j + 1)) kd = (kj == kd)) := by rw [hsu]; rfl
            clear hsu hin
            go_wp2_with fail
            go_quiet (fail)
            go_wp2
            go_roundw
            case rel => exact ⟨j + 1, by omega, by go_num, by rw [HS.out], Below.drewN' hb3 _⟩
            case measure => simp [intOf]; omega
        · have e8 : j = m := by omega
          subst e8
          rw [HTA.out]
          have hst2 := hst1.below hb3
          have hb4 := hbr.trans (hb3.mono hbr.size)
          cases hin : isIn ks kd with
          | false =>
            clear hin
            go_wp2_with fail
            go_roundw
            case rel => exact ⟨k + 1, K1, by omega, by go_num, hst2, hkb1.out.mono (Nat.le_succ k), hb4⟩
            case measure => simp [intOf]; omega
          | true =>
            have hsp := HSP.out _ _ _ _ _ hst2 k (by omega) hkb1.out kd xa xb hin
            have u0 := (hb3.cell (p := ⟨b, off + k * 3, none⟩) lb2).trans t0
            have u1 := (hb3.cell (p := ⟨b, off + k * 3 + 1, none⟩) lb2).trans t1
            have u2 := (hb3.cell (p := ⟨b, off + k * 3 + 2, none⟩) lb2).trans t2
            clear hin t0 t1 t2 HKC hb3 hbr hst1
            go_wp2_with fail
            refine hsp.mono ?_
            rintro e w4 ⟨rfl, ⟨K2, hst4, hkb2⟩, hb5⟩
            replace hkb2 : Hid _ := hkb2
            have hlk := hst4.looks
            have hb6 := hb4.trans hb5
            clear hb5 hsp u0 u1 u2 hst2 hb4
            go_wp2_with fail
            refine hlk.mono ?_
            rintro e w5 ⟨rfl, hb7⟩
            have hst5 := hst4.below hb7
            have hb8 := hb6.trans (hb7.mono hb6.size)
            clear hlk hst4 hb7 hb6
            go_wp2_with fail
            go_roundw
            case rel => exact ⟨k + 1, K2, by omega, by go_num, hst5, hkb2.out, hb8⟩
            case measure => simp [intOf]; omega
    · have hag := hst1.agrees
      go_wp2_with fail
      refine hag.mono ?_
      rintro e w2 ⟨rfl, hb3⟩
      go_wp2
      go_ret
      exact ⟨rfl, hbr.trans (hb3.mono hbr.size)⟩


set_option maxHeartbeats 4000000 in
theorem all_walk (c : Conf) (w : World) (v : Value) (n : Nat) (hn6 : n ≤ 1048576) (l : Nat → Int × Int × Int) (hs : ScriptAt w v n l) : Calls Try.prog 8 #[confV c, v] w fun e w' => e = .returned (.bool true) ∧ Below w.heap.size w w' := by
  have h1 : ∀ W kb, Below w.heap.size w W → W.heap[kb]? = some (.cells #[I 1, I 2, I 3, I 4, I 5, I 6, I 7, I 8, I 9, I 10, I 11] 3 (0, 0)) → Calls Try.prog 14 #[confV c, v, .slice (some ⟨kb, 0, none⟩) 11 11] W fun e w' => e = .returned (.bool true) ∧ Below W.heap.size W w' := by
    intro W kb hb hk
    cases h : mayC c
    · obtain ⟨ao, cap, e, _⟩ := hs.form
      rw [e]
      exact plays_no c W h _ _ _ _ _ _
    · exact plays_all [1, 2, 3, 4, 5, 6, 7, 8, 9, 10, 11] (by decide) (fun w B c lb K h j hj hkb k a b hk => h.step j hj hkb k a b hk) c W h v n hn6 l (hs.below hb) kb hk
  obtain ⟨ao, cap, rfl, _⟩ := hs.form
  unfold confV at h1 ⊢
  replace h1 : Hid _ := h1
  clear hs
  go_enter Try.func8, Try.ntmps8
  go_wp2_with fail
  have hb0 : Below w.heap.size w ((w.alloc (.cells #[I c.kind, I c.depth, I c.start, I c.slots, I c.width, I c.spin, I c.drain, I c.procs] 23)).alloc (.cells #[I 1, I 2, I 3, I 4, I 5, I 6, I 7, I 8, I 9, I 10, I 11] 3)) := ((Below.refl _ _).alloc (Nat.le_refl _) _).alloc (by simp) _
  refine (h1.out _ (w.heap.size + 1) hb0 (by
    have := nb_alloc (w.alloc (.cells #[I c.kind, I c.depth, I c.start, I c.slots, I c.width, I c.spin, I c.drain, I c.procs] 23)) #[I 1, I 2, I 3, I 4, I 5, I 6, I 7, I 8, I 9, I 10, I 11] 3
    simp only [World.size_alloc] at this
    exact this)).mono ?_
  rintro e w1 ⟨rfl, hb1⟩
  go_wp2
  go_ret
  exact ⟨rfl, hb0.trans (hb1.mono hb0.size)⟩

end Go.Proofs.Ytjnmpejcegmkhaa

namespace Go.Proofs.Ytjnmpejcegmkhaa
open Go.ChangeShapes Go.WideShapes Go.ChangeAt Go.RowKit Go.Joins

theorem ownK : ownKnob Try.prog.godebug = none := by kernel_rfl

set_option maxRecDepth 100000 in
theorem conf_open {H : Type} {enc : TypeId × Value → H} {W : World} {base : Nat} {held : Bool} {sp : Nat → Bool} {v : Value} {d : DataW H} {p : List MemPlace} {r : Reach} {b0 : Nat}
    (hv : Value.okWide Try.prog W r b0 23 v) (h : DataW.Trod enc Try.prog W base sp held 23 v d p) : ∃ c : Conf, v = confV c := by
  obtain ⟨cs, rfl, hsz⟩ := okWide_struct Try.underlying23 hv
  obtain ⟨fuel, hf⟩ := h
  obtain ⟨xs, n, h1, h2, hl, hlen, hf⟩ := DataW.trod_struct Try.underlying23 hf
  have hlen8 : xs.length = 8 := hlen
  have hcs8 : cs.toList.length = 8 := by
    have e8 : Try.prog.cellsOf 23 = 8 := by kernel_rfl
    rw [Array.length_toList, hsz, e8]
  have e1 : Try.prog.cellsOf 3 = 1 := by kernel_rfl
  have key : ∀ i, i < 8 → ∀ f : Field, f.type = 3 → f.offset = i → DataW.trod enc Try.prog W base sp held n f.type ((cs.toList.drop f.offset).take (Try.prog.cellsOf f.type)) = xs[i]? → ∃ a : Int, cs.toList[i]? = some (I a) := by
    intro i hi f ht ho hx
    rw [ht, ho, e1] at hx
    rw [List.getElem?_eq_getElem (by omega : i < xs.length)] at hx
    obtain ⟨a, hc, _⟩ := DataW.trod_int Try.underlying3 hx
    refine ⟨a, ?_⟩
    have := congrArg (fun l => l[0]?) hc
    simpa using this
  obtain ⟨a0, q0⟩ := key 0 (by omega) _ rfl rfl (hf 0 _ rfl)
  obtain ⟨a1, q1⟩ := key 1 (by omega) _ rfl rfl (hf 1 _ rfl)
  obtain ⟨a2, q2⟩ := key 2 (by omega) _ rfl rfl (hf 2 _ rfl)
  obtain ⟨a3, q3⟩ := key 3 (by omega) _ rfl rfl (hf 3 _ rfl)
  obtain ⟨a4, q4⟩ := key 4 (by omega) _ rfl rfl (hf 4 _ rfl)
  obtain ⟨a5, q5⟩ := key 5 (by omega) _ rfl rfl (hf 5 _ rfl)
  obtain ⟨a6, q6⟩ := key 6 (by omega) _ rfl rfl (hf 6 _ rfl)
  obtain ⟨a7, q7⟩ := key 7 (by omega) _ rfl rfl (hf 7 _ rfl)
  refine ⟨⟨a0, a1, a2, a3, a4, a5, a6, a7⟩, ?_⟩
  have el : cs.toList = [I a0, I a1, I a2, I a3, I a4, I a5, I a6, I a7] := by
    apply List.ext_getElem?
    intro i
    by_cases hi : i < 8
    · have : i = 0 ∨ i = 1 ∨ i = 2 ∨ i = 3 ∨ i = 4 ∨ i = 5 ∨ i = 6 ∨ i = 7 := by omega
      rcases this with rfl | rfl | rfl | rfl | rfl | rfl | rfl | rfl
      · exact q0
      · exact q1
      · exact q2
      · exact q3
      · exact q4
      · exact q5
      · exact q6
      · exact q7
    · rw [List.getElem?_eq_none (by omega), List.getElem?_eq_none (by simp; omega)]
  show Value.agg cs = .agg #[I a0, I a1, I a2, I a3, I a4, I a5, I a6, I a7]
  have ec : cs = #[I a0, I a1, I a2, I a3, I a4, I a5, I a6, I a7] := Array.toList_inj.1 el
  rw [ec]

theorem laidOut : laidOutB Try.prog = true := by kernel_rfl

set_option maxRecDepth 100000 in
theorem op_open {H : Type} {enc : TypeId × Value → H} {W : World} {base n : Nat} {held : Bool} {sp : Nat → Bool} {cs : List Value} {x : DataW H × List MemPlace}
    (h : DataW.trod enc Try.prog W base sp held n 64 cs = some x) (hl : cs.length = 3) : ∃ q : Int × Int × Int, cs = [I q.1, I q.2.1, I q.2.2] := by
  obtain ⟨xs, m, h1, h2, _, hlen, hf⟩ := DataW.trod_struct Try.underlying64 h
  have hlen3 : xs.length = 3 := hlen
  have e1 : Try.prog.cellsOf 3 = 1 := by kernel_rfl
  have key : ∀ i, i < 3 → ∀ f : Field, f.type = 3 → f.offset = i → DataW.trod enc Try.prog W base sp held m f.type ((cs.drop f.offset).take (Try.prog.cellsOf f.type)) = xs[i]? → ∃ a : Int, cs[i]? = some (I a) := by
    intro i hi f ht ho hx
    rw [ht, ho, e1] at hx
    rw [List.getElem?_eq_getElem (by omega : i < xs.length)] at hx
    obtain ⟨a, hc, _⟩ := DataW.trod_int Try.underlying3 hx
    refine ⟨a, ?_⟩
    have := congrArg (fun l => l[0]?) hc
    simpa using this
  obtain ⟨a0, q0⟩ := key 0 (by omega) _ rfl rfl (hf 0 _ rfl)
  obtain ⟨a1, q1⟩ := key 1 (by omega) _ rfl rfl (hf 1 _ rfl)
  obtain ⟨a2, q2⟩ := key 2 (by omega) _ rfl rfl (hf 2 _ rfl)
  refine ⟨(a0, a1, a2), ?_⟩
  apply List.ext_getElem?
  intro i
  by_cases hi : i < 3
  · have : i = 0 ∨ i = 1 ∨ i = 2 := by omega
    rcases this with rfl | rfl | rfl
    · exact q0
    · exact q1
    · exact q2
  · rw [List.getElem?_eq_none (by omega), List.getElem?_eq_none (by simp; omega)]

theorem bulk_one {H : Type} (d : DataW H) : 1 ≤ Rows.uptoBulk d := by
  cases d with
  | lit l => cases l <;> simp [Rows.uptoBulk]
  | nil => simp [Rows.uptoBulk]
  | ptr d => simp [Rows.uptoBulk]
  | slice elems spare => simp [Rows.uptoBulk]
  | agg parts => simp [Rows.uptoBulk]
  | iface t d => simp [Rows.uptoBulk]
  | map entries => simp [Rows.uptoBulk]
  | held h => simp [Rows.uptoBulk]
theorem bulk_len {H : Type} (l : List (DataW H)) : l.length ≤ Rows.uptoBulkAll l := by
  induction l with
  | nil => simp [Rows.uptoBulkAll]
  | cons x r ih => have := bulk_one x; simp only [Rows.uptoBulkAll, List.length_cons]; omega
theorem bulk_slice {H : Type} (elems spare : List (DataW H)) : elems.length ≤ Rows.uptoBulk (.slice elems spare) := by
  have h1 := bulk_len elems
  simp only [Rows.uptoBulk]
  omega

theorem script_open {H : Type} {enc : TypeId × Value → H} {W : World} {base : Nat} {held : Bool} {ao : Option Addr} {len cap : Nat} {d : DataW H} {p : List MemPlace}
    (h : DataW.Trod enc Try.prog W base (fun _ => true) held 26 (.slice ao len cap) d p) : len ≤ Rows.uptoBulk d ∧ ∃ l, ScriptAt W (.slice ao len cap) len l := by
  obtain ⟨fuel, hf⟩ := h
  rcases Go.Deep.open_slice Try.underlying26 hf with ⟨hcs, _⟩ | ⟨a, len', cap', m, n, D, Pl, hcs, _, hl, hm, hmm, hd, hx⟩
  · simp [Value.cells] at hcs
    obtain ⟨rfl, rfl, rfl⟩ := hcs
    exact ⟨Nat.zero_le _, fun _ => (0, 0, 0), ⟨none, 0, rfl, Nat.le_refl _, Nat.zero_le _, fun i hi => absurd hi (by omega)⟩⟩
  · simp [Value.cells] at hcs
    obtain ⟨rfl, rfl, rfl⟩ := hcs
    have e3 : Try.prog.cellsOf 64 = 3 := by kernel_rfl
    simp only [if_true] at hmm
    subst hmm
    rw [e3] at hx
    have key : ∀ i, i < len → ∃ q : Int × Int × Int, ∃ b off, (some a : Option Addr) = some ⟨b, off, none⟩ ∧ b < W.heap.size ∧
        W.cell? ⟨b, off + i * 3, none⟩ = some (I q.1) ∧ W.cell? ⟨b, off + i * 3 + 1, none⟩ = some (I q.2.1) ∧ W.cell? ⟨b, off + i * 3 + 2, none⟩ = some (I q.2.2) := by
      intro i hi
      obtain ⟨cs', h1, h2⟩ := hx i (by omega)
      obtain ⟨_, hlen, hc⟩ := World.cells?_some h1
      obtain ⟨q, rfl⟩ := op_open h2 hlen
      have c0 := hc 0 (by omega)
      have c1 := hc 1 (by omega)
      have c2 := hc 2 (by omega)
      obtain ⟨b, off, sp⟩ := a
      have hsp : sp = none := by
        cases sp with
        | none => rfl
        | some s =>
          exfalso
          obtain ⟨cs0, g1, g2⟩ := hx 0 (by omega)
          obtain ⟨_, glen, gc⟩ := World.cells?_some g1
          have g0 := gc 0 (by omega)
          rw [List.getElem?_eq_getElem (by omega)] at g0
          have ea : ((⟨b, off, some s⟩ : Addr).add (0 * 3)).add 0 = ⟨b, off, some s⟩ := by simp [Addr.add]
          rw [ea] at g0
          unfold World.cell? at g0
          split at g0 <;> simp at g0
      subst hsp
      have ad : ∀ j, ((⟨b, off, none⟩ : Addr).add (i * 3)).add j = ⟨b, off + i * 3 + j, none⟩ := by
        intro j
        unfold Addr.add
        split <;> split <;> simp_all
      rw [ad] at c0 c1 c2
      refine ⟨q, b, off, rfl, cell_lt c1, ?_, ?_, ?_⟩
      · simpa using c0
      · simpa using c1
      · simpa using c2
    obtain ⟨l, hl2⟩ := Go.Deep.choose_lt key
    have hdl : len ≤ Rows.uptoBulk d := by
      simp only [Prod.mk.injEq] at hd
      rw [hd.1]
      refine Nat.le_trans ?_ (bulk_slice ((List.range len).map D) _)
      simp
    exact ⟨hdl, l, ⟨some a, _, rfl, hl, Nat.le_trans hl hm, hl2⟩⟩

set_option maxRecDepth 100000 in
theorem all_lifted (os : Os) (started : os.Started) (H : Type) (enc : TypeId × Value → H) (F : Stop.Interp) :
    ReturnsInHanded {} Try.checked os 8 .any ((Rows.OpenSpec.upto Rows.allSpec).pre6 enc Try.prog Try.f8 Rows.allUptoRow.domain false) (((Rows.OpenSpec.upto Rows.allSpec).at F).post enc Try.prog Try.f8 false true false false) := by
  refine returnsInHanded_of_cond (C := Try.checked) (s := Rows.OpenSpec.upto Rows.allSpec) (k := Rows.uptoSmall) rfl ownK started (by kernel_rfl) Try.func8
    (OpenSpec.witness (enc := enc) (C := Try.checked) (s := Rows.OpenSpec.upto Rows.allSpec) (k := Rows.uptoSmall) rfl false ⟨#[], #[.agg #[.int .i64 0, .int .i64 0, .int .i64 0, .int .i64 0, .int .i64 0, .int .i64 0, .int .i64 0, .int .i64 0], .slice none 0 0], []⟩ 8 (by kernel_rfl) (by kernel_rfl) (by kernel_rfl)
      (x := ([.agg [.lit (.int .i64 0), .lit (.int .i64 0), .lit (.int .i64 0), .lit (.int .i64 0), .lit (.int .i64 0), .lit (.int .i64 0), .lit (.int .i64 0), .lit (.int .i64 0)], .nil], [], [])) (by kernel_rfl) rfl (by kernel_rfl)) ?_
  intro W base args ds gs before hval0 hW _ hk _
  have hval : ∀ (j : Nat) t v, Try.f8.params[j]? = some t → args[j]? = some v → Value.okWide Try.prog W .any base t v := hval0
  have hW' := hW
  obtain ⟨p, q, hA0, hV, rfl, _, _⟩ := hW
  have hA : DataW.TrodAll enc Try.prog W 0 (fun _ => true) true Try.f8.params.toList args.toList ds p := hA0
  rw [Try.params8] at hA hval
  obtain ⟨v0, vs0, d0, ds0, p0, q0, hargs, rfl, rfl, h0, r0⟩ := trodAll_cons hA
  obtain ⟨v1, vs1, d1, ds1, p1, q1, rfl, rfl, rfl, h1, r1⟩ := trodAll_cons r0
  obtain ⟨rfl, rfl, rfl⟩ := trodAll_nil r1
  obtain rfl : args = #[v0, v1] := by cases args; simp_all
  obtain ⟨rfl, rfl⟩ := trodVars_none hV
  have k0 := h0
  have k1 := h1
  have lt0 : ∀ x ∈ p0, x.block < W.heap.size := by obtain ⟨m, hm⟩ := k0; exact DataW.trod_lt m _ _ _ hm
  have lt1 : ∀ x ∈ p1, x.block < W.heap.size := by obtain ⟨m, hm⟩ := k1; exact DataW.trod_lt m _ _ _ hm
  obtain ⟨c, rfl⟩ := conf_open (hval 0 23 v0 rfl rfl) h0
  obtain ⟨a1, len1, cap1, rfl⟩ := okWide_slice Try.underlying26 (hval 1 26 v1 rfl rfl)
  obtain ⟨hbk, l, hs⟩ := script_open h1
  have hn6 : len1 ≤ 1048576 := by
    have h := of_decide_eq_true hk
    simp only [Rows.uptoBulkAll, List.append_nil] at h
    omega
  clear hA0 hval0
  refine (all_walk c W _ len1 hn6 l hs).mono fun e W' ⟨he, bel⟩ => ?_
  subst he
  exact ⟨_, rfl, _, _, _, [], _, [], hW', trodAll_mk1 (shut_bool Try.underlying4 _), (trodAll_cons_mk (Below.trod laidOut (by kernel_rfl) (of_decide_eq_true (by kernel_rfl)) k0 bel lt0) (trodAll_cons_mk (Below.trod laidOut (by kernel_rfl) (of_decide_eq_true (by kernel_rfl)) k1 bel lt1) trodAll_mk0)), rfl, bel.frame _, fun h => by cases h⟩

theorem all_holds : Rows.AllUptoSaid :=
  OpenClaim.holds_of_cond 8 Try.f8 rfl rfl rfl rfl rfl rfl rfl ⟨rfl, rfl, rfl, rfl, rfl⟩ rfl rfl rfl rfl rfl (by kernel_rfl) Try.func8 (by kernel_rfl)
    (of_decide_eq_true (by kernel_rfl)) (by unfold Func.isWrapper; first | (rw [if_pos (by decide +kernel)]; kernel_rfl) | (rw [if_neg (by decide +kernel)]; exact ⟨rfl, rfl⟩))
    (fun os started H enc _ F => all_lifted os started H enc F)

#print axioms all_holds
end Go.Proofs.Ytjnmpejcegmkhaa
