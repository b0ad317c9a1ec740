/- What a hand of package prismkeep is in memory; contracts of at and live. No statement of the seat is proved here. -/
import Derived.Test.YtjnmpejcegmkhaaKeep1
import Derived.Test.YtjnmpejcegmkhaaProgB
namespace Go.Proofs.Ytjnmpejcegmkhaa
open Go.RowKit

def opCells (o : Op3) : List Value := [I o.kind, I o.val, I o.node]
def handCells (P : PLay) (ov wv : Value) : List Value := [.pointer (some ⟨P.tb, 0, none⟩), I P.c.kind, I P.c.depth, I P.c.start, I P.c.slots, I P.c.width, I P.c.spin, I P.c.drain, I P.c.procs, ov, wv]

/-- A hand: its tree, what was begun, who has stepped. -/
structure KRep (w : World) (B hb : Nat) (P : PLay) (ops : List Op3) (went : List Bool) : Prop where
  blk : ∃ ov wv, w.heap[hb]? = some (.cells (handCells P ov wv).toArray 38 (0, 0)) ∧ w.ownsRow B 33 3 ov ops.length (ops.flatMap opCells) ∧ w.ownsRow B 4 1 wv went.length (went.map Value.bool)
  hB : B ≤ hb
  prog : PRep w B P
  len : ops.length = P.procs.length
  wlen : went.length = ops.length

theorem KRep.below {w w' : World} {B hb : Nat} {P : PLay} {ops : List Op3} {went : List Bool} (h : KRep w B hb P ops went) (hw : Below w.heap.size w w') : KRep w' B hb P ops went := by
  obtain ⟨ov, wv, a, b, d⟩ := h.blk
  exact ⟨⟨ov, wv, by rw [hw.block _ (Array.getElem?_eq_some_iff.1 a).1]; exact a, ownsRow_below b hw (Nat.le_refl _), ownsRow_below d hw (Nat.le_refl _)⟩, h.hB, h.prog.below hw, h.len, h.wlen⟩

theorem KRep.t {w : World} {B hb : Nat} {P : PLay} {ops : List Op3} {went : List Bool} (h : KRep w B hb P ops went) : w.cell? ⟨hb, 0, none⟩ = some (.pointer (some ⟨P.tb, 0, none⟩)) := by
  obtain ⟨ov, wv, a, _⟩ := h.blk
  rw [(nb_facts a).1 0]
  rfl

/-- What is told of process n. -/
def toldP (P : PLay) (n : Int) : Int × Int × Int :=
  if 0 ≤ n ∧ n < P.procs.length then ((P.procs.getD n.toNat zeroPP).phase, (P.procs.getD n.toNat zeroPP).node, (P.procs.getD n.toNat zeroPP).val) else (0, 0, 0)

theorem pprocV_told (P : PLay) (n : Int) : pprocV P n = .tuple #[.agg #[I (toldP P n).1, I (toldP P n).2.1, I (toldP P n).2.2], I (if 0 ≤ n ∧ n < P.procs.length then 0 else 5)] := by
  unfold pprocV toldP
  by_cases h : 0 ≤ n ∧ n < P.procs.length
  · rw [if_pos h, if_pos h, if_pos h]
  · rw [if_neg h, if_neg h, if_neg h]

set_option maxHeartbeats 2000000 in
theorem kat_c {w : World} {B hb : Nat} {P : PLay} {ops : List Op3} {went : List Bool} (h : KRep w B hb P ops went) (n : Int) :
    Calls Try.prog 44 #[.pointer (some ⟨hb, 0, none⟩), I n] w fun e w' => e = .returned (.agg #[I (toldP P n).1, I (toldP P n).2.1, I (toldP P n).2.2]) ∧ Below w.heap.size w w' := by
  have c0 := h.t
  have l0 := cell_lt c0
  have hp := fun W (hw : Below w.heap.size w W) => pproc_c (h.prog.below hw) n
  rw [pprocV_told] at hp
  generalize toldP P n = q at *
  obtain ⟨a, b, d⟩ := q
  simp only at *
  generalize (if 0 ≤ n ∧ n < (P.procs.length : Int) then (0 : Int) else 5) = er at *
  replace hp : Hid _ := hp
  clear h
  go_enter Try.func44, Try.ntmps44
  go_wp2_with fail
  have hba : Below w.heap.size w (w.alloc (.cells #[I 0, I 0, I 0] 84)) := (Below.refl _ _).alloc (Nat.le_refl _) _
  refine Calls.mono (hp.out _ hba) ?_
  rintro e w1 ⟨rfl, hb1⟩
  have nx : w1.heap[w.heap.size]? = some (.cells #[I 0, I 0, I 0] 84 (0, 0)) := (hb1.block _ (by simp)).trans (nb_alloc _ _ _)
  have hb2 : Below w.heap.size w w1 := hba.trans (hb1.mono (by simp))
  obtain ⟨x1, x2⟩ := nb_facts nx
  have l1 := (Array.getElem?_eq_some_iff.1 nx).1
  have hb3 := ((hb2.setCell (p := ⟨w.heap.size, 0, none⟩) (Nat.le_refl _) (I a)).setCell (p := ⟨w.heap.size, 1, none⟩) (Nat.le_refl _) (I b)).setCell (p := ⟨w.heap.size, 2, none⟩) (Nat.le_refl _) (I d)
  have HB : Hid _ := hb3.alloc hb3.size (.cells #[I a, I b, I d] 84)
  clear hb1 hb2 hba nx hb3
  go_wp2
  exact bodyPost_ret (v := .agg #[I a, I b, I d]) (by simp [results, Try.results44, go_sem, x1, l1]) rfl ⟨rfl, HB.out⟩

def kliveTo (P : PLay) (k : Nat) : Nat := pliveL (P.procs.take k)

set_option maxHeartbeats 2000000 in
theorem klive_c {w : World} {B hb : Nat} {P : PLay} {ops : List Op3} {went : List Bool} (h : KRep w B hb P ops went) :
    Calls Try.prog 31 #[.pointer (some ⟨hb, 0, none⟩)] w fun e w' => e = .returned (I (pliveL P.procs)) ∧ Below w.heap.size w w' := by
  have hat := fun W (hw : Below w.heap.size w W) n => kat_c (h.below hw) n
  obtain ⟨ov, wv, hblk, hro, _⟩ := h.blk
  obtain ⟨ao, cap, e1, q1, q2, q3, _⟩ := ownsRow_cells hro
  have c9 : ∀ W, Below w.heap.size w W → W.cell? ⟨hb, 9, none⟩ = some (.slice ao ops.length cap) := by
    intro W hw
    rw [hw.cell (p := ⟨hb, 9, none⟩) (Array.getElem?_eq_some_iff.1 hblk).1, (nb_facts hblk).1 9, ← e1]
    rfl
  have htold : ∀ k : Nat, k < P.procs.length → (toldP P k).1 = (P.procs.getD k zeroPP).phase := by
    intro k hk
    unfold toldP
    rw [if_pos ⟨by omega, by omega⟩, Int.toNat_natCast]
  have hlen := h.len
  unfold maxLen at q2 q3
  replace hat : Hid _ := hat
  have HC : Hid _ := c9
  have HTD : Hid _ := htold
  clear h hblk hro e1 c9 htold
  go_enter Try.func31, Try.ntmps31
  go_wp2_with fail
  go_loopw [3, 4, 5] (fun nn pp _ wr => ∃ k : Nat, k ≤ P.procs.length ∧ nn = .int .i64 (pliveL (P.procs.take k)) ∧ pp = .int .i64 k ∧ Below w.heap.size w wr) (fun _ pp _ _ => P.procs.length - (intOf pp).toNat)
  case atStart => exact ⟨0, Nat.zero_le _, rfl, rfl, Below.refl _ _⟩
  case round =>
    obtain ⟨k, hk, rfl, rfl, hbr⟩ := hrel
    have d9 := HC.out _ hbr
    have hle := pliveL_le (P.procs.take k)
    have hle2 : (P.procs.take k).length ≤ k := List.length_take_le _ _
    by_cases hlt : k < P.procs.length
    · have hts := take_succ_get P.procs k hlt
      have HT : Hid (pliveL (P.procs.take (k + 1)) = pliveL (P.procs.take k) + if (P.procs[k]).phase = 20 then 0 else 1) := by show _ = _; rw [hts, pliveL_append]; simp [pliveL]
      have htd := HTD.out k hlt
      have hg : P.procs.getD k zeroPP = P.procs[k] := by simp [List.getD_eq_getElem?_getD, List.getElem?_eq_getElem hlt]
      rw [hg] at htd
      have ha := fun W hw => hat.out W hw (k : Int)
      replace ha : Hid _ := ha
      rw [htd] at ha
      clear hts htd hg
      generalize (P.procs[k]).phase = ph at *
      have hkl : (k : Int) < (ops.length : Int) := by omega
      go_wp2_with fail
      refine Calls.mono (ha.out _ hbr) ?_
      rintro e w1 ⟨rfl, hb1⟩
      have hb2 : Below w.heap.size w w1 := hbr.trans (hb1.mono hbr.size)
      clear hb1 ha hat
      by_cases hh : ph = 20
      · have b1 : (ph != 20) = false := by simp [hh]
        have HC2 : Hid (pliveL (P.procs.take (k + 1)) = pliveL (P.procs.take k)) := by show _ = _; rw [HT.out, if_pos hh]; rfl
        clear HT hh
        go_wp2
        go_roundw
        case rel => exact ⟨k + 1, by omega, int_of (by rw [HC2.out]), by go_num, hb2.alloc hb2.size _⟩
        case measure => simp [intOf]; omega
      · have b1 : (ph != 20) = true := by simp [hh]
        have HC2 : Hid (pliveL (P.procs.take (k + 1)) = pliveL (P.procs.take k) + 1) := by show _ = _; rw [HT.out, if_neg hh]
        clear HT hh
        go_wp2
        go_roundw
        case rel => exact ⟨k + 1, by omega, int_of (by rw [HC2.out]; omega), by go_num, hb2.alloc hb2.size _⟩
        case measure => simp [intOf]; omega
    · have HC2 : Hid (pliveL P.procs = pliveL (P.procs.take k)) := by show _ = _; rw [List.take_of_length_le (by omega)]
      have hge : (ops.length : Int) ≤ (k : Int) := by omega
      have hd : decide ((k : Int) < (ops.length : Int)) = false := by simp; omega
      go_wp2
      go_ret
      exact ⟨by rw [HC2.out]; rfl, hbr⟩

end Go.Proofs.Ytjnmpejcegmkhaa
