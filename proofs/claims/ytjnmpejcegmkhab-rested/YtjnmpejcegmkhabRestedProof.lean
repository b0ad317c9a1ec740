/- The contract of package prismkeep's alike, of two hands whose trees are the document's same tree. No statement of the seat is proved here. Arguments of the statements of package prismkeep, opened. No statement of the seat is proved here. The walk of the statement Rested: for every configuration, script, number of rounds and draw the call answers true, and what was there is as it was. No statement of the seat is proved here. The statement Rested: for every configuration (any eight numbers) and every script (any list of steps, raw), number of rounds and draw the call of prismkeep.Rested returns true, and its arguments read as they did before. No condition. -/
import Derived.Test.YtjnmpejcegmkhabI2
import Derived.Deep.QuietTactic
import Derived.BigQuiet
import Derived.Test.YtjnmpejcegmkhabRows
import Derived.WalkKit
import Derived.ProofKit
import Derived.OpenShut
import Derived.Carry
import Derived.Lib.SmallJoins
import Derived.Deep.Slices
import Derived.SizedLaws
namespace Go.Proofs.Ytjnmpejcegmkhab
open Go.RowKit
variable {Fr Fr2 : Nat → Prop}

theorem findN_way (v : Int) : ∀ (l : List Int) (i : Nat), findN v l i = -1 ∨ ∃ k, k < l.length ∧ findN v l i = ((i + k : Nat) : Int)
  | [], _ => Or.inl rfl
  | x :: r, i => by
    unfold findN
    split
    · exact Or.inr ⟨0, by simp, by simp⟩
    · rcases findN_way v r (i + 1) with h | ⟨k, h1, h2⟩
      · exact Or.inl h
      · exact Or.inr ⟨k + 1, by simp; omega, by rw [h2]; congr 1; omega⟩
theorem sameL_self (l : List ND) : SameL l l 0 false := by
  intro u h1 h64 _ _
  rcases findN_way u (l.map fun d => d.num) 0 with h | ⟨k, hk, h⟩
  · exact Or.inl ⟨h, h⟩
  · rw [Nat.zero_add] at h
    have hk' : k < l.length := by simpa using hk
    exact Or.inr ⟨k, k, hk', hk', h, h, rfl⟩

theorem KSt.proc {w : World} {B hb : Nat} {c : Conf} {S : Gh} {P : PLay} (h : KSt Fr w B hb c S P) {W : World} (hw : Below w.heap.size w W) (p : Nat) (hp : p < S.L.procs.length) :
    Calls Try.prog 37 #[.pointer (some ⟨P.tb, 0, none⟩), I p] W fun e w' => e = .returned (.tuple #[.agg #[I (S.L.procs[p]).2.phase, I (S.L.procs[p]).2.node, I (S.L.procs[p]).2.val], I 0]) ∧ Below W.heap.size W w' := by
  have := pproc_c ((h.rep.prog).below hw) (p : Int)
  have hpl := h.rel.plen
  rw [pprocV_told, h.told p hp, if_pos ⟨by omega, by omega⟩] at this
  exact this

set_option maxHeartbeats 8000000 in
set_option maxRecDepth 100000 in
theorem kalike_c {w : World} {B h1 h2 : Nat} {c : Conf} {S1 S2 : Gh} {P1 P2 : PLay} (a : KSt Fr w B h1 c S1 P1) (b : KSt Fr2 w B h2 c S2 P2) (e12 : S2.L = S1.L) :
    Calls Try.prog 22 #[.pointer (some ⟨h1, 0, none⟩), .pointer (some ⟨h2, 0, none⟩)] w fun e w' => e = .returned (.bool true) ∧ Below w.heap.size w w' := by
  obtain ⟨x1, x2, x3, HP1, HP2⟩ : ∃ x1 x2 x3 : Nat → Int, Hid (∀ W, Below w.heap.size w W → ∀ p : Nat, p < S1.L.procs.length → Calls Try.prog 37 #[.pointer (some ⟨P1.tb, 0, none⟩), I p] W fun e w' => e = .returned (.tuple #[.agg #[I (x1 p), I (x2 p), I (x3 p)], I 0]) ∧ Below W.heap.size W w') ∧
      Hid (∀ W, Below w.heap.size w W → ∀ p : Nat, p < S1.L.procs.length → Calls Try.prog 37 #[.pointer (some ⟨P2.tb, 0, none⟩), I p] W fun e w' => e = .returned (.tuple #[.agg #[I (x1 p), I (x2 p), I (x3 p)], I 0]) ∧ Below W.heap.size W w') := by
    have key : ∀ p, (hp : p < S1.L.procs.length) → S1.L.procs.getD p (0, newPr ⟨0, 0, 0⟩) = S1.L.procs[p] := fun p hp => by rw [List.getD_eq_getElem?_getD, List.getElem?_eq_getElem hp]; rfl
    refine ⟨fun p => (S1.L.procs.getD p (0, newPr ⟨0, 0, 0⟩)).2.phase, fun p => (S1.L.procs.getD p (0, newPr ⟨0, 0, 0⟩)).2.node, fun p => (S1.L.procs.getD p (0, newPr ⟨0, 0, 0⟩)).2.val, fun W hw p hp => ?_, fun W hw p hp => ?_⟩
    · simp only [key p hp]; exact a.proc hw p hp
    · simp only [key p hp]
      have := b.proc hw p (by rw [e12]; exact hp)
      simp only [e12] at this
      exact this
  have HN1 : Hid (∀ W, Below w.heap.size w W → Calls Try.prog 13 #[.pointer (some ⟨P1.tb, 0, none⟩)] W fun e w' => ∃ x l, e = .returned x ∧ NodesRep w' W.heap.size x l ∧ l.map (fun y => y.1) = rnodes S1.L ∧ Below W.heap.size W w') := fun W hw => a.nodes hw
  have HN2 : Hid (∀ W, Below w.heap.size w W → Calls Try.prog 13 #[.pointer (some ⟨P2.tb, 0, none⟩)] W fun e w' => ∃ x l, e = .returned x ∧ NodesRep w' W.heap.size x l ∧ l.map (fun y => y.1) = rnodes S1.L ∧ Below W.heap.size W w') := by
    intro W hw
    have := b.nodes hw
    rw [e12] at this
    exact this
  have HSH : Hid (∀ W, Below w.heap.size w W → ∀ b' x l, NodesRep W b' x l → l.map (fun y => y.1) = rnodes S1.L → Calls Try.prog 14 #[.pointer (some ⟨h1, 0, none⟩), x] W fun e w' => e = .returned (.bool true) ∧ Below W.heap.size W w') := fun W hw b' x l hr el => (a.below hw).shaped hr el
  have HSB : Hid (∀ W (ba bb : Nat) x y la lb, NodesRep W ba x la → NodesRep W bb y lb → la.map (fun z => z.1) = rnodes S1.L → lb.map (fun z => z.1) = rnodes S1.L → Calls Try.prog 41 #[x, y, I 0, .bool false] W fun e w' => e = .returned (.bool true) ∧ Below W.heap.size W w') := by
    intro W ba bb x y la lb ha hb e1 e2
    exact ksameBut_c ha hb 0 false (by rw [e1, e2]; exact sameL_self _)
  obtain ⟨ao, cap, c9, q1, q2, q3⟩ := a.opsAt
  have t1 := a.rep.t
  have t2 := b.rep.t
  have l1 := cell_lt t1
  have l2 := cell_lt t2
  unfold maxLen at q3
  clear a b e12
  generalize hn : S1.L.procs.length = n at *
  go_enter Try.func22, Try.ntmps22
  go_wp2_with fail
  go_loopw [5, 6, 7, 8, 9] (fun i _ _ _ _ wr => ∃ k : Nat, k ≤ n ∧ i = .int .i64 k ∧ Below w.heap.size w wr) (fun i _ _ _ _ _ => n - (intOf i).toNat)
  case atStart => exact ⟨0, Nat.zero_le _, rfl, Below.refl _ _⟩
  case round =>
    obtain ⟨k, hk, rfl, hbr⟩ := hrel
    have d9 := (hbr.cell (p := ⟨h1, 9, none⟩) l1).trans c9
    have d1 := (hbr.cell (p := ⟨h1, 0, none⟩) l1).trans t1
    by_cases hlt : k < n
    · have hc1 := HP1.out wr hbr k hlt
      have HC2 := fun W hw => HP2.out W hw k hlt
      generalize x1 k = y1 at *
      generalize x2 k = y2 at *
      generalize x3 k = y3 at *
      replace HC2 : Hid _ := HC2
      replace hc1 : Hid _ := hc1
      have hki : (k : Int) < n := by omega
      go_wp2_with fail
      refine Calls.mono hc1.out ?_
      rintro e w1 ⟨rfl, hb1⟩
      have hb2 := hbr.trans (hb1.mono hbr.size)
      have d2 := (hb2.cell (p := ⟨h2, 0, none⟩) l2).trans t2
      have ld2 := cell_lt d2
      have hc2 := HC2.out (w1.alloc (.cells #[I y1, I y2, I y3] 48)) (hb2.alloc hb2.size _)
      replace hc2 : Hid _ := hc2
      have nb1 : (w1.alloc (.cells #[I y1, I y2, I y3] 48)).heap[w1.heap.size]? = some (.cells #[I y1, I y2, I y3] 48 (0, 0)) := nb_alloc _ _ _
      have lb1 := (Array.getElem?_eq_some_iff.1 nb1).1
      have hb3 := hb2.alloc hb2.size (.cells #[I y1, I y2, I y3] 48)
      clear hc1 hb1 HC2 d9 d1
      go_wp2_with fail
      refine Calls.mono hc2.out ?_
      rintro e w2 ⟨rfl, hb4⟩
      have nb2 := (hb4.block _ lb1).trans nb1
      have hb5 := hb3.trans (hb4.mono hb3.size)
      obtain ⟨z1, _⟩ := nb_facts nb2
      have lb2 := (Array.getElem?_eq_some_iff.1 nb2).1
      clear hc2 hb4 hb3 nb1 lb1 d2 ld2
      go_wp2_with fail
      go_roundw
      case rel => exact ⟨k + 1, by omega, by go_num, hb5.alloc hb5.size _⟩
      case measure => simp [intOf]; omega
    · have e : k = n := by omega
      subst e
      have hn1 := HN1.out _ hbr
      replace hn1 : Hid _ := hn1
      clear HP1 HP2
      go_wp2_with fail
      refine Calls.mono hn1.out ?_
      rintro e w1 ⟨xa, la, rfl, ra, ea, hb1⟩
      have hb2 := hbr.trans (hb1.mono hbr.size)
      have d2 := (hb2.cell (p := ⟨h2, 0, none⟩) l2).trans t2
      have hn2 := HN2.out _ hb2
      replace hn2 : Hid _ := hn2
      obtain ⟨oa, ca, rfl, _⟩ := ownsRow_cells ra.row
      replace ra : Hid _ := ra
      replace ea : Hid _ := ea
      clear hn1 hb1 HN1 HN2
      go_wp2_with fail
      refine Calls.mono hn2.out ?_
      rintro e w3 ⟨xb, lb, rfl, rb, eb, hb3⟩
      have hb4 := hb2.trans (hb3.mono hb2.size)
      have ra3 : Hid _ := ra.out.below hb3 (Nat.le_refl _)
      have hsh := HSH.out _ hb4 _ _ _ ra3.out ea.out
      replace hsh : Hid _ := hsh
      obtain ⟨ob, cb, rfl, _⟩ := ownsRow_cells rb.row
      have hll : lb.length = la.length := by have h1 := congrArg List.length ea.out; have h2 := congrArg List.length eb; simp only [List.length_map] at h1 h2; omega
      rw [hll] at rb ⊢
      replace hll : Hid _ := hll
      replace rb : Hid _ := rb
      replace eb : Hid _ := eb
      clear hn2 hb3 d2
      go_wp2_with fail
      refine Calls.mono hsh.out ?_
      rintro e w4 ⟨rfl, hb5⟩
      have hb6 := hb4.trans (hb5.mono hb4.size)
      have hsb := HSB.out w4 _ _ _ _ _ _ (ra3.out.below hb5 (Nat.le_refl _)) (rb.out.below hb5 (Nat.le_refl _)) ea.out eb.out
      replace hsb : Hid _ := hsb
      clear hsh hb5 HSH HSB
      go_wp2_with fail
      refine Calls.mono hsb.out ?_
      rintro e w5 ⟨rfl, hb7⟩
      clear hsb
      go_wp2_with fail
      go_ret
      exact ⟨rfl, hb6.trans (hb7.mono hb6.size)⟩

end Go.Proofs.Ytjnmpejcegmkhab

namespace Go.Proofs.Ytjnmpejcegmkhab
open Go.ChangeShapes Go.WideShapes Go.ChangeAt Go.RowKit Go.Joins

theorem ownK2 : ownKnob Try.prog.godebug = none := by kernel_rfl

theorem laidOut2 : laidOutB Try.prog = true := by kernel_rfl

set_option maxRecDepth 100000 in
theorem conf_open2 {H : Type} {enc : TypeId × Value → H} {W : World} {base : Nat} {held : Bool} {sp : Nat → Bool} {v : Value} {d : DataW H} {p : List MemPlace} {r : Reach} {b0 : Nat}
    (hv : Value.okWide Try.prog W r b0 23 v) (h : DataW.Trod enc Try.prog W base sp held 23 v d p) : ∃ c : Conf, v = confV c := by
  obtain ⟨cs, rfl, hsz⟩ := okWide_struct Try.underlying23 hv
  obtain ⟨fuel, hf⟩ := h
  obtain ⟨xs, n, h1, h2, hl, hlen, hf⟩ := DataW.trod_struct Try.underlying23 hf
  have hlen8 : xs.length = 8 := hlen
  have hcs8 : cs.toList.length = 8 := by
    have e8 : Try.prog.cellsOf 23 = 8 := by kernel_rfl
    rw [Array.length_toList, hsz, e8]
  have e1 : Try.prog.cellsOf 3 = 1 := by kernel_rfl
  have key : ∀ i, i < 8 → ∀ f : Field, f.type = 3 → f.offset = i → DataW.trod enc Try.prog W base sp held n f.type ((cs.toList.drop f.offset).take (Try.prog.cellsOf f.type)) = xs[i]? → ∃ a : Int, cs.toList[i]? = some (I a) := by
    intro i hi f ht ho hx
    rw [ht, ho, e1] at hx
    rw [List.getElem?_eq_getElem (by omega : i < xs.length)] at hx
    obtain ⟨a, hc, _⟩ := DataW.trod_int Try.underlying3 hx
    refine ⟨a, ?_⟩
    have := congrArg (fun l => l[0]?) hc
    simpa using this
  obtain ⟨a0, q0⟩ := key 0 (by omega) _ rfl rfl (hf 0 _ rfl)
  obtain ⟨a1, q1⟩ := key 1 (by omega) _ rfl rfl (hf 1 _ rfl)
  obtain ⟨a2, q2⟩ := key 2 (by omega) _ rfl rfl (hf 2 _ rfl)
  obtain ⟨a3, q3⟩ := key 3 (by omega) _ rfl rfl (hf 3 _ rfl)
  obtain ⟨a4, q4⟩ := key 4 (by omega) _ rfl rfl (hf 4 _ rfl)
  obtain ⟨a5, q5⟩ := key 5 (by omega) _ rfl rfl (hf 5 _ rfl)
  obtain ⟨a6, q6⟩ := key 6 (by omega) _ rfl rfl (hf 6 _ rfl)
  obtain ⟨a7, q7⟩ := key 7 (by omega) _ rfl rfl (hf 7 _ rfl)
  refine ⟨⟨a0, a1, a2, a3, a4, a5, a6, a7⟩, ?_⟩
  have el : cs.toList = [I a0, I a1, I a2, I a3, I a4, I a5, I a6, I a7] := by
    apply List.ext_getElem?
    intro i
    by_cases hi : i < 8
    · have : i = 0 ∨ i = 1 ∨ i = 2 ∨ i = 3 ∨ i = 4 ∨ i = 5 ∨ i = 6 ∨ i = 7 := by omega
      rcases this with rfl | rfl | rfl | rfl | rfl | rfl | rfl | rfl
      · exact q0
      · exact q1
      · exact q2
      · exact q3
      · exact q4
      · exact q5
      · exact q6
      · exact q7
    · rw [List.getElem?_eq_none (by omega), List.getElem?_eq_none (by simp; omega)]
  show Value.agg cs = .agg #[I a0, I a1, I a2, I a3, I a4, I a5, I a6, I a7]
  have ec : cs = #[I a0, I a1, I a2, I a3, I a4, I a5, I a6, I a7] := Array.toList_inj.1 el
  rw [ec]

structure ScrAt (w : World) (v : Value) (n : Nat) (l : Nat → Int × Int × Int) : Prop where
  form : ∃ ao cap, v = .slice ao n cap ∧ n ≤ cap ∧ n ≤ maxLen ∧ ∀ i, i < n → ∃ b off, ao = some ⟨b, off, none⟩ ∧ b < w.heap.size ∧
    w.cell? ⟨b, off + i * 3, none⟩ = some (I (l i).1) ∧ w.cell? ⟨b, off + i * 3 + 1, none⟩ = some (I (l i).2.1) ∧ w.cell? ⟨b, off + i * 3 + 2, none⟩ = some (I (l i).2.2)

set_option maxRecDepth 100000 in
theorem kop_open2 {H : Type} {enc : TypeId × Value → H} {W : World} {base n : Nat} {held : Bool} {sp : Nat → Bool} {cs : List Value} {x : DataW H × List MemPlace}
    (h : DataW.trod enc Try.prog W base sp held n 31 cs = some x) (hl : cs.length = 3) : ∃ q : Int × Int × Int, cs = [I q.1, I q.2.1, I q.2.2] := by
  obtain ⟨xs, m, h1, h2, _, hlen, hf⟩ := DataW.trod_struct Try.underlying31 h
  have hlen3 : xs.length = 3 := hlen
  have e1 : Try.prog.cellsOf 3 = 1 := by kernel_rfl
  have key : ∀ i, i < 3 → ∀ f : Field, f.type = 3 → f.offset = i → DataW.trod enc Try.prog W base sp held m f.type ((cs.drop f.offset).take (Try.prog.cellsOf f.type)) = xs[i]? → ∃ a : Int, cs[i]? = some (I a) := by
    intro i hi f ht ho hx
    rw [ht, ho, e1] at hx
    rw [List.getElem?_eq_getElem (by omega : i < xs.length)] at hx
    obtain ⟨a, hc, _⟩ := DataW.trod_int Try.underlying3 hx
    refine ⟨a, ?_⟩
    have := congrArg (fun l => l[0]?) hc
    simpa using this
  obtain ⟨a0, q0⟩ := key 0 (by omega) _ rfl rfl (hf 0 _ rfl)
  obtain ⟨a1, q1⟩ := key 1 (by omega) _ rfl rfl (hf 1 _ rfl)
  obtain ⟨a2, q2⟩ := key 2 (by omega) _ rfl rfl (hf 2 _ rfl)
  refine ⟨(a0, a1, a2), ?_⟩
  apply List.ext_getElem?
  intro i
  by_cases hi : i < 3
  · have : i = 0 ∨ i = 1 ∨ i = 2 := by omega
    rcases this with rfl | rfl | rfl
    · exact q0
    · exact q1
    · exact q2
  · rw [List.getElem?_eq_none (by omega), List.getElem?_eq_none (by simp; omega)]

theorem kscript_open2 {H : Type} {enc : TypeId × Value → H} {W : World} {base : Nat} {held : Bool} {ao : Option Addr} {len cap : Nat} {d : DataW H} {p : List MemPlace}
    (h : DataW.Trod enc Try.prog W base (fun _ => true) held 24 (.slice ao len cap) d p) : ∃ l, ScrAt W (.slice ao len cap) len l := by
  obtain ⟨fuel, hf⟩ := h
  rcases Go.Deep.open_slice Try.underlying24 hf with ⟨hcs, _⟩ | ⟨a, len', cap', m, n, D, Pl, hcs, _, hl, hm, hmm, _, hx⟩
  · simp [Value.cells] at hcs
    obtain ⟨rfl, rfl, rfl⟩ := hcs
    exact ⟨fun _ => (0, 0, 0), ⟨none, 0, rfl, Nat.le_refl _, Nat.zero_le _, fun i hi => absurd hi (by omega)⟩⟩
  · simp [Value.cells] at hcs
    obtain ⟨rfl, rfl, rfl⟩ := hcs
    have e3 : Try.prog.cellsOf 31 = 3 := by kernel_rfl
    simp only [if_true] at hmm
    subst hmm
    rw [e3] at hx
    have key : ∀ i, i < len → ∃ q : Int × Int × Int, ∃ b off, (some a : Option Addr) = some ⟨b, off, none⟩ ∧ b < W.heap.size ∧
        W.cell? ⟨b, off + i * 3, none⟩ = some (I q.1) ∧ W.cell? ⟨b, off + i * 3 + 1, none⟩ = some (I q.2.1) ∧ W.cell? ⟨b, off + i * 3 + 2, none⟩ = some (I q.2.2) := by
      intro i hi
      obtain ⟨cs', h1, h2⟩ := hx i (by omega)
      obtain ⟨_, hlen, hc⟩ := World.cells?_some h1
      obtain ⟨q, rfl⟩ := kop_open2 h2 hlen
      have c0 := hc 0 (by omega)
      have c1 := hc 1 (by omega)
      have c2 := hc 2 (by omega)
      obtain ⟨b, off, sp⟩ := a
      have hsp : sp = none := by
        cases sp with
        | none => rfl
        | some s =>
          exfalso
          obtain ⟨cs0, g1, g2⟩ := hx 0 (by omega)
          obtain ⟨_, glen, gc⟩ := World.cells?_some g1
          have g0 := gc 0 (by omega)
          rw [List.getElem?_eq_getElem (by omega)] at g0
          have ea : ((⟨b, off, some s⟩ : Addr).add (0 * 3)).add 0 = ⟨b, off, some s⟩ := by simp [Addr.add]
          rw [ea] at g0
          unfold World.cell? at g0
          split at g0 <;> simp at g0
      subst hsp
      have ad : ∀ j, ((⟨b, off, none⟩ : Addr).add (i * 3)).add j = ⟨b, off + i * 3 + j, none⟩ := by
        intro j
        unfold Addr.add
        split <;> split <;> simp_all
      rw [ad] at c0 c1 c2
      refine ⟨q, b, off, rfl, cell_lt c1, ?_, ?_, ?_⟩
      · simpa using c0
      · simpa using c1
      · simpa using c2
    obtain ⟨l, hl2⟩ := Go.Deep.choose_lt key
    exact ⟨l, ⟨some a, _, rfl, hl, Nat.le_trans hl hm, hl2⟩⟩

end Go.Proofs.Ytjnmpejcegmkhab

namespace Go.Proofs.Ytjnmpejcegmkhab
open Go.RowKit

/-- Both hands have come to the same tree. -/
def TwoE (w : World) (B h1 h2 : Nat) (c : Conf) : Prop := ∃ S1 S2 : Gh, S2.L = S1.L ∧ Two w B h1 h2 c S1 S2
theorem TwoE.below {w w' : World} {B h1 h2 : Nat} {c : Conf} (h : TwoE w B h1 h2 c) (hb : Below w.heap.size w w') : TwoE w' B h1 h2 c := by
  obtain ⟨S1, S2, e, h⟩ := h
  exact ⟨S1, S2, e, h.below hb⟩
theorem TwoE.hB {w : World} {B h1 h2 : Nat} {c : Conf} (h : TwoE w B h1 h2 c) : B ≤ w.heap.size := by
  obtain ⟨S1, S2, e, h⟩ := h
  exact h.1

theorem gplay_L (c : Conf) {S1 S2 : Gh} (e : S2.L = S1.L) (k a b : Int) : (gplay c S2 k a b).L = (gplay c S1 k a b).L := by
  unfold gplay
  split
  · unfold gstep
    rw [e]
    split <;> simp [e]
  · split
    · unfold grest
      split <;> simp [e]
    · split
      · unfold gspawn
        rw [e]
        split <;> simp [e]
      · exact e

/-- Steps of a script stay as they lie. -/
def OpK (w w' : World) : Prop := ∀ (k : Nat) (cs : Array Value), w.heap[k]? = some (.cells cs 31 (0, 0)) → w'.heap[k]? = some (.cells cs 31 (0, 0))
theorem ChgT.opK {Fr : Nat → Prop} {B : Nat} {w w' : World} (h : ChgT Fr B KT w w') : OpK w w' := fun _ _ hk => h.at hk (by decide)

/-- The first plays a step of the script. -/
theorem TwoE.play {w : World} {B h1 h2 : Nat} {c : Conf} (h : TwoE w B h1 h2 c) (k a b : Int) :
    Calls Try.prog 8 #[.pointer (some ⟨h1, 0, none⟩), .agg #[I k, I a, I b]] w fun e w' => e = .returned (.bool true) ∧ Below B w w' ∧ OpK w w' ∧
      (∀ W, Below w'.heap.size w' W → Calls Try.prog 8 #[.pointer (some ⟨h2, 0, none⟩), .agg #[I k, I a, I b]] W fun e w2 => e = .returned (.bool true) ∧ Below B W w2 ∧ TwoE w2 B h1 h2 c) ∧
      (k = 9 → ∀ W, Below w'.heap.size w' W → Calls Try.prog 21 #[.pointer (some ⟨h2, 0, none⟩), I a, I b] W fun e w2 => e = .returned (.bool true) ∧ Below B W w2 ∧ TwoE w2 B h1 h2 c) := by
  obtain ⟨S1, S2, e12, h⟩ := h
  obtain ⟨Fr, P1, hk, hf⟩ := h.first
  refine (hplay_c hk k a b).mono ?_
  rintro e w' ⟨rfl, hP, hc⟩
  have ht := hf _ w' _ hP hc
  refine ⟨rfl, hc.below h.1, hc.opK, fun W hW => ?_, fun h9 W hW => ?_⟩
  · have htW := ht.below hW
    obtain ⟨Fr2, P2, hk2, hf2⟩ := htW.second
    refine (hplay_c hk2 k a b).mono ?_
    rintro e w2 ⟨rfl, hP2, hc2⟩
    refine ⟨rfl, hc2.below htW.1, _, _, gplay_L c e12 k a b, hf2 _ w2 _ hP2 hc2⟩
  · subst h9
    have htW := ht.below hW
    obtain ⟨Fr2, P2, hk2, hf2⟩ := htW.second
    refine (kbyHand_c hk2 a b).mono ?_
    rintro e w2 ⟨rfl, ⟨S', eS, hP2⟩, hc2⟩
    refine ⟨rfl, hc2.below htW.1, gplay c S1 9 a b, S', ?_, hf2 _ w2 _ hP2 hc2⟩
    rw [eS]
    unfold gplay
    rw [if_neg (by decide), if_pos rfl]
    unfold grest
    split <;> simp [e12]

theorem TwoE.alike {w : World} {B h1 h2 : Nat} {c : Conf} (h : TwoE w B h1 h2 c) : Calls Try.prog 22 #[.pointer (some ⟨h1, 0, none⟩), .pointer (some ⟨h2, 0, none⟩)] w fun e w' => e = .returned (.bool true) ∧ Below w.heap.size w w' := by
  obtain ⟨S1, S2, e12, h⟩ := h
  obtain ⟨Fr, P1, hk, _⟩ := h.first
  obtain ⟨Fr2, P2, hk2, _⟩ := h.second
  exact kalike_c hk hk2 e12

/-- Two begins, one behind the other. -/
theorem begin_two (c : Conf) (hm : mayC c = true) (w : World) : Calls Try.prog 7 #[confV c] w fun e w1 => ∃ h1, e = .returned (.tuple #[.pointer (some ⟨h1, 0, none⟩), .bool true]) ∧ Below w.heap.size w w1 ∧
    ∀ W, Below w1.heap.size w1 W → Calls Try.prog 7 #[confV c] W fun e w2 => ∃ h2, e = .returned (.tuple #[.pointer (some ⟨h2, 0, none⟩), .bool true]) ∧ Below W.heap.size W w2 ∧ TwoE w2 w.heap.size h1 h2 c := by
  refine (kbegin_yes (Fr := fun _ => False) c w hm (fun _ hk => False.elim hk)).mono ?_
  rintro e w1 ⟨h1, P1, rfl, hk1, hn1, hb1⟩
  refine ⟨h1, rfl, hb1, fun W hW => ?_⟩
  obtain ⟨o1, v1, hm1⟩ := (hk1.below hW).mem
  refine (kbegin_yes (Fr := HBlk h1 P1 o1 v1) c W hm (fun k hk => hm1.blkLt hk)).mono ?_
  rintro e w2 ⟨h2, P2, rfl, hk2, hn2, hb2⟩
  have hs : w.heap.size ≤ W.heap.size := Nat.le_trans hb1.size hW.size
  exact ⟨h2, rfl, hb2, _, _, rfl, two_new hm hm1 hn1 hb2 hk2 hn2 (Nat.le_trans hs hb2.size) hs⟩

set_option maxHeartbeats 8000000 in
set_option maxRecDepth 100000 in
theorem rested_walk (c : Conf) (w : World) (v : Value) (n : Nat) (hn : n ≤ 1000000000000000) (l : Nat → Int × Int × Int) (hs : ScrAt w v n l) (r d : Int) : Calls Try.prog 6 #[confV c, v, I r, I d] w fun e w' => e = .returned (.bool true) ∧ Below w.heap.size w w' := by
  obtain ⟨ao, cap, rfl, n1, n2, h4⟩ := hs.form
  unfold maxLen at n2
  have hba : Below w.heap.size w (w.alloc (.cells #[I c.kind, I c.depth, I c.start, I c.slots, I c.width, I c.spin, I c.drain, I c.procs] 23)) := (Below.refl _ _).alloc (Nat.le_refl _) _
  have noa : (w.alloc (.cells #[I c.kind, I c.depth, I c.start, I c.slots, I c.width, I c.spin, I c.drain, I c.procs] 23)).heap[w.heap.size]? = some (.cells #[I c.kind, I c.depth, I c.start, I c.slots, I c.width, I c.spin, I c.drain, I c.procs] 23 (0, 0)) := nb_alloc _ _ _
  cases hm : mayC c
  · have hbg := fun W => kbegin_no c W hm
    unfold confV at hbg ⊢
    replace hbg : Hid _ := hbg
    clear hs h4 hm
    go_enter Try.func6, Try.ntmps6
    go_wp2_with fail
    refine Calls.mono (hbg.out _) ?_
    rintro e w1 ⟨rfl, hb1⟩
    have nb1 := (hb1.block _ (Array.getElem?_eq_some_iff.1 noa).1).trans noa
    have hb2 := hba.trans (hb1.mono hba.size)
    obtain ⟨f1, _⟩ := nb_facts nb1
    clear hb1
    go_wp2_with fail
    refine Calls.mono (hbg.out _) ?_
    rintro e w2 ⟨rfl, hb3⟩
    go_wp2_with fail
    go_ret
    exact ⟨rfl, hb2.trans (hb3.mono hb2.size)⟩
  · have hbg := fun W => begin_two c hm W
    unfold confV at hbg ⊢
    replace hbg : Hid _ := hbg
    have H4 : Hid _ := h4
    clear hs h4 hm
    go_enter Try.func6, Try.ntmps6
    go_wp2_with fail
    refine Calls.mono (hbg.out _) ?_
    rintro e w1 ⟨h1, rfl, hb1, hnx⟩
    have nb1 := (hb1.block _ (Array.getElem?_eq_some_iff.1 noa).1).trans noa
    have hb2 := hba.trans (hb1.mono hba.size)
    obtain ⟨f1, _⟩ := nb_facts nb1
    have hnx2 := hnx _ (Below.refl _ _)
    replace hnx2 : Hid _ := hnx2
    clear hb1 hnx hbg
    go_wp2_with fail
    refine Calls.mono hnx2.out ?_
    rintro e w2 ⟨h2, rfl, hb3, hT⟩
    have hb4 := hb2.trans (hb3.mono hb2.size)
    have HB : Hid (w.heap.size ≤ (w.alloc (.cells #[I c.kind, I c.depth, I c.start, I c.slots, I c.width, I c.spin, I c.drain, I c.procs] 23)).heap.size) := hba.size
    generalize (w.alloc (.cells #[I c.kind, I c.depth, I c.start, I c.slots, I c.width, I c.spin, I c.drain, I c.procs] 23)).heap.size = B at *
    replace hT : Hid _ := hT
    clear hnx2 hb3 hb2 nb1 f1 hba noa
    go_wp2_with fail
    go_loopw [10, 12, 13, 14, 15] (fun _ _ i _ _ wr => ∃ k : Nat, k ≤ n + 1 ∧ i = .int .i64 k ∧ Hid (TwoE wr B h1 h2 c) ∧ Below w.heap.size w wr) (fun _ _ i _ _ _ => n + 1 - (intOf i).toNat)
    case atStart => exact ⟨0, Nat.zero_le _, rfl, hT, hb4⟩
    case round =>
      obtain ⟨k, hk, rfl, hst, hbr⟩ := hrel
      by_cases hle : k ≤ n
      · have bl : decide ((k : Int) ≤ (n : Int)) = true := decide_eq_true (by omega)
        have hbo : Below wr.heap.size wr (wr.alloc (.cells #[I 9, I r, I d] 31)) := (Below.refl _ _).alloc (Nat.le_refl _) _
        have nbo : (wr.alloc (.cells #[I 9, I r, I d] 31)).heap[wr.heap.size]? = some (.cells #[I 9, I r, I d] 31 (0, 0)) := nb_alloc _ _ _
        obtain ⟨q, hq1, hq2⟩ : ∃ q : Int × Int × Int, (k < n → q = l k) ∧ (¬ k < n → q = (9, r, d)) := by
          by_cases h : k < n
          · exact ⟨l k, fun _ => rfl, fun h' => absurd h h'⟩
          · exact ⟨(9, r, d), fun h' => absurd h' h, fun _ => rfl⟩
        obtain ⟨kd, xa, xb⟩ := q
        go_upto_if 56 with fail
        go_cut [] (fun wx => wx.heap[wr.heap.size]? = some (.cells #[I kd, I xa, I xb] 31 (0, 0)) ∧ Below wr.heap.size wr wx)
        case first =>
          by_cases hlt : k < n
          · have b2 : decide ((k : Int) < (n : Int)) = true := decide_eq_true (by omega)
            obtain ⟨b, off, rfl, lb, p0, p1, p2⟩ := H4.out k hlt
            have e := hq1 hlt
            rw [← e] at p0 p1 p2
            simp only at p0 p1 p2
            have d0 := (hbr.cell (p := ⟨b, off + k * 3, none⟩) lb).trans p0
            have d1 := (hbr.cell (p := ⟨b, off + k * 3 + 1, none⟩) lb).trans p1
            have d2 := (hbr.cell (p := ⟨b, off + k * 3 + 2, none⟩) lb).trans p2
            have ld := cell_lt d0
            obtain ⟨z1, z2⟩ := nb_facts nbo
            clear e hq1 hq2 p0 p1 p2 hst
            go_wp2_with fail
            go_meet
            exact ⟨nb_alloc _ _ _, (Below.refl _ _).alloc (Nat.le_refl _) _⟩
          · have b2 : decide ((k : Int) < (n : Int)) = false := decide_eq_false (by omega)
            have e := hq2 hlt
            simp only [Prod.mk.injEq] at e
            obtain ⟨rfl, rfl, rfl⟩ := e
            clear hq1 hq2 hst
            go_wp2_with fail
            go_meet
            exact ⟨nbo, hbo⟩
        case rest =>
          obtain ⟨nbx, hbx⟩ := hcut
          generalize wc = wx at *
          clear hbo nbo hq1 hq2
          have hT2 := hst.out.below hbx
          have hpl := hT2.play kd xa xb
          have hBx := hT2.hB
          have hby : Below w.heap.size w wx := hbr.trans (hbx.mono hbr.size)
          obtain ⟨x1, _⟩ := nb_facts nbx
          replace hpl : Hid _ := hpl
          clear hst hT2
          go_wp2_with fail
          refine Calls.mono hpl.out ?_
          rintro e w3 ⟨rfl, hb5, hok, hp2, hr2⟩
          have nb3 := hok _ _ nbx
          obtain ⟨y1, _⟩ := nb_facts nb3
          have hby3 : Below w.heap.size w w3 := hby.trans (hb5.mono HB.out)
          have HP2 : Hid _ := hp2 w3 (Below.refl _ _)
          have HR2 : Hid _ := fun h9 => hr2 h9 w3 (Below.refl _ _)
          clear hpl hb5 hok hp2 hr2 x1 nbx hbx hby
          go_upto_if 66 with fail
          go_cut [12] (fun s12 wy => s12 = .bool true ∧ Hid (TwoE wy B h1 h2 c) ∧ Below B w3 wy)
          case first =>
            by_cases h9 : kd = 9
            · have b9 : (kd == 9) = true := by rw [beq_iff_eq]; exact h9
              have hr3 : Hid _ := HR2.out h9
              clear h9 HP2 HR2
              go_wp2_with fail
              refine Calls.mono hr3.out ?_
              rintro e w4 ⟨rfl, hb6, hT4⟩
              replace hT4 : Hid _ := hT4
              go_wp2_with fail
              go_meet
              exact ⟨rfl, hT4, hb6⟩
            · have b9 : (kd == 9) = false := by rw [beq_eq_false_iff_ne]; exact h9
              clear h9 HR2
              go_wp2_with fail
              refine Calls.mono HP2.out ?_
              rintro e w4 ⟨rfl, hb6, hT4⟩
              replace hT4 : Hid _ := hT4
              go_wp2_with fail
              go_meet
              exact ⟨rfl, hT4, hb6⟩
          case rest =>
            obtain ⟨rfl, hT5, hb7⟩ := hcut
            generalize wc = w4 at *
            have hal : Hid _ := hT5.out.alike
            have hby4 := hby3.trans (hb7.mono HB.out)
            clear HP2 HR2 hb7 hby3 y1 nb3
            go_wp2_with fail
            refine Calls.mono hal.out ?_
            rintro e w5 ⟨rfl, hb8⟩
            have hT6 : Hid _ := hT5.out.below hb8
            have hby5 := hby4.trans (hb8.mono hby4.size)
            clear hal hT5 hb8 hby4
            go_wp2_with fail
            go_roundw
            case rel => exact ⟨k + 1, by omega, by go_num, hT6, hby5⟩
            case measure => simp [intOf]; omega
      · have bl : decide ((k : Int) ≤ (n : Int)) = false := decide_eq_false (by omega)
        clear hst
        go_wp2_with fail
        go_ret
        exact ⟨rfl, hbr⟩

end Go.Proofs.Ytjnmpejcegmkhab

namespace Go.Proofs.Ytjnmpejcegmkhab
open Go.ChangeShapes Go.WideShapes Go.ChangeAt Go.RowKit Go.Joins

/-- How long a script is, by what was read of it. -/
theorem script_len {H : Type} {enc : TypeId × Value → H} {W : World} {base : Nat} {held : Bool} {ao : Option Addr} {len cap : Nat} {d : DataW H} {p : List MemPlace}
    (h : DataW.Trod enc Try.prog W base (fun _ => true) held 24 (.slice ao len cap) d p) : len = 0 ∨ ∃ elems spare, d = .slice elems spare ∧ elems.length = len := by
  obtain ⟨fuel, hf⟩ := h
  rcases Go.Deep.open_slice Try.underlying24 hf with ⟨hcs, _⟩ | ⟨a, len', cap', m, n, D, Pl, hcs, _, hl, hm, hmm, hd, hx⟩
  · simp [Value.cells] at hcs
    exact Or.inl hcs.2.1
  · simp [Value.cells] at hcs
    obtain ⟨rfl, rfl, rfl⟩ := hcs
    simp only [Prod.mk.injEq] at hd
    exact Or.inr ⟨_, _, hd.1, by simp⟩

set_option maxRecDepth 100000 in
theorem rested_lifted (os : Os) (started : os.Started) (H : Type) (enc : TypeId × Value → H) :
    ReturnsInHanded {} Try.checked os 6 .any (Rows.restedSpec.pre6 enc Try.prog Try.f6 Rows.restedRow.domain false) (Rows.restedSpec.post enc Try.prog Try.f6 false true false false) := by
  refine returnsInHanded_of_change_sized (C := Try.checked) ownK2 started (by kernel_rfl) Try.func6
    (ChangeSpec.witness6 (enc := enc) (C := Try.checked) false ⟨#[], #[.agg #[.int .i64 0, .int .i64 0, .int .i64 0, .int .i64 0, .int .i64 0, .int .i64 0, .int .i64 0, .int .i64 0], .slice none 0 0, .int .i64 0, .int .i64 0], []⟩ 8 (by kernel_rfl) (by kernel_rfl) (by kernel_rfl) (by kernel_rfl)) ?_
  intro W base args ds gs before hval0 hW _ hz0 _
  have hval : ∀ (j : Nat) t v, Try.f6.params[j]? = some t → args[j]? = some v → Value.okWide Try.prog W .any base t v := hval0
  have hW' := hW
  obtain ⟨p, q, hA0, hV, rfl, _, _⟩ := hW
  have hA : DataW.TrodAll enc Try.prog W 0 (fun _ => true) true Try.f6.params.toList args.toList ds p := hA0
  rw [Try.params6] at hA hval
  obtain ⟨v0, vs0, d0, ds0, p0, q0, hargs, rfl, rfl, h0, r0⟩ := trodAll_cons hA
  obtain ⟨v1, vs1, d1, ds1, p1, q1, rfl, rfl, rfl, h1, r1⟩ := trodAll_cons r0
  obtain ⟨v2, vs2, d2, ds2, p2, q2, rfl, rfl, rfl, h2, r2⟩ := trodAll_cons r1
  obtain ⟨v3, vs3, d3, ds3, p3, q3, rfl, rfl, rfl, h3, r3⟩ := trodAll_cons r2
  obtain ⟨rfl, rfl, rfl⟩ := trodAll_nil r3
  obtain rfl : args = #[v0, v1, v2, v3] := by cases args; simp_all
  obtain ⟨rfl, rfl⟩ := trodVars_none hV
  have k0 := h0
  have k1 := h1
  have lt0 : ∀ x ∈ p0, x.block < W.heap.size := by obtain ⟨m, hm⟩ := k0; exact DataW.trod_lt m _ _ _ hm
  have lt1 : ∀ x ∈ p1, x.block < W.heap.size := by obtain ⟨m, hm⟩ := k1; exact DataW.trod_lt m _ _ _ hm
  have k2 := h2
  have k3 := h3
  have lt2 : ∀ x ∈ p2, x.block < W.heap.size := by obtain ⟨m, hm⟩ := k2; exact DataW.trod_lt m _ _ _ hm
  have lt3 : ∀ x ∈ p3, x.block < W.heap.size := by obtain ⟨m, hm⟩ := k3; exact DataW.trod_lt m _ _ _ hm
  obtain ⟨c, rfl⟩ := conf_open2 (hval 0 23 v0 rfl rfl) h0
  obtain ⟨a1, len1, cap1, rfl⟩ := okWide_slice Try.underlying24 (hval 1 24 v1 rfl rfl)
  obtain ⟨l, hs⟩ := kscript_open2 h1
  have hn : len1 ≤ 1000000000000000 := by
    rcases script_len h1 with h0 | ⟨elems, spare, e, el⟩
    · omega
    · subst e
      have hz : (DataW.weightsEach Try.prog (Try.f6.params.toList ++ Rows.restedSpec.plain.varTypes Try.prog) ([d0, .slice elems spare, d2, d3] ++ [])).all (· ≤ reachBytes) = true := hz0
      have := sized_slice hz (j := 1) (t := 24) (e := 31) (elems := elems) (spare := spare) (by rw [Try.params6]; rfl) rfl Try.underlying24
      have hb : Try.prog.bytesOf 31 = 24 := by kernel_rfl
      rw [hb] at this
      unfold reachBytes at this
      omega
  obtain ⟨a2, rfl, rfl, rfl, wa2⟩ := open_int Try.underlying3 (hval 2 3 v2 rfl rfl) h2
  obtain ⟨a3, rfl, rfl, rfl, wa3⟩ := open_int Try.underlying3 (hval 3 3 v3 rfl rfl) h3
  clear hA0 hval0
  refine (rested_walk c W _ len1 hn l hs a2 a3).mono fun e W' ⟨he, bel⟩ => ?_
  subst he
  exact ⟨_, rfl, _, _, _, [], _, [], hW', trodAll_mk1 (shut_bool Try.underlying4 _), (trodAll_cons_mk (Below.trod laidOut2 (by kernel_rfl) (of_decide_eq_true (by kernel_rfl)) k0 bel lt0) (trodAll_cons_mk (Below.trod laidOut2 (by kernel_rfl) (of_decide_eq_true (by kernel_rfl)) k1 bel lt1) (trodAll_cons_mk (Below.trod laidOut2 (by kernel_rfl) (of_decide_eq_true (by kernel_rfl)) k2 bel lt2) (trodAll_cons_mk (Below.trod laidOut2 (by kernel_rfl) (of_decide_eq_true (by kernel_rfl)) k3 bel lt3) trodAll_mk0)))), rfl, bel.frame _, fun h => by cases h⟩

theorem rested_holds : Rows.RestedSaid :=
  OpenClaim.holds_of_wide 6 Try.f6 rfl rfl rfl rfl rfl rfl rfl ⟨rfl, rfl, rfl, rfl, rfl⟩ rfl rfl rfl rfl rfl (by kernel_rfl) Try.func6 (by kernel_rfl)
    (of_decide_eq_true (by kernel_rfl)) (by unfold Func.isWrapper; first | (rw [if_pos (by decide +kernel)]; kernel_rfl) | (rw [if_neg (by decide +kernel)]; exact ⟨rfl, rfl⟩))
    (fun os started H enc _ => rested_lifted os started H enc)

#print axioms rested_holds
end Go.Proofs.Ytjnmpejcegmkhab
