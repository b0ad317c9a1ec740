/- Arguments of the statements of package prismkeep, opened. No statement of the seat is proved here. -/
import Derived.Test.YtjnmpejcegmkhaaNew0
import Derived.Test.YtjnmpejcegmkhaaRows
import Derived.WalkKit
import Derived.ProofKit
import Derived.OpenShut
import Derived.Carry
import Derived.Lib.SmallJoins
import Derived.Deep.Slices
namespace Go.Proofs.Ytjnmpejcegmkhaa
open Go.ChangeShapes Go.WideShapes Go.ChangeAt Go.RowKit Go.Joins

theorem ownK2 : ownKnob Try.prog.godebug = none := by kernel_rfl

theorem laidOut2 : laidOutB Try.prog = true := by kernel_rfl

set_option maxRecDepth 100000 in
theorem conf_open2 {H : Type} {enc : TypeId × Value → H} {W : World} {base : Nat} {held : Bool} {sp : Nat → Bool} {v : Value} {d : DataW H} {p : List MemPlace} {r : Reach} {b0 : Nat}
    (hv : Value.okWide Try.prog W r b0 23 v) (h : DataW.Trod enc Try.prog W base sp held 23 v d p) : ∃ c : Conf, v = confV c := by
  obtain ⟨cs, rfl, hsz⟩ := okWide_struct Try.underlying23 hv
  obtain ⟨fuel, hf⟩ := h
  obtain ⟨xs, n, h1, h2, hl, hlen, hf⟩ := DataW.trod_struct Try.underlying23 hf
  have hlen8 : xs.length = 8 := hlen
  have hcs8 : cs.toList.length = 8 := by
    have e8 : Try.prog.cellsOf 23 = 8 := by kernel_rfl
    rw [Array.length_toList, hsz, e8]
  have e1 : Try.prog.cellsOf 3 = 1 := by kernel_rfl
  have key : ∀ i, i < 8 → ∀ f : Field, f.type = 3 → f.offset = i → DataW.trod enc Try.prog W base sp held n f.type ((cs.toList.drop f.offset).take (Try.prog.cellsOf f.type)) = xs[i]? → ∃ a : Int, cs.toList[i]? = some (I a) := by
    intro i hi f ht ho hx
    rw [ht, ho, e1] at hx
    rw [List.getElem?_eq_getElem (by omega : i < xs.length)] at hx
    obtain ⟨a, hc, _⟩ := DataW.trod_int Try.underlying3 hx
    refine ⟨a, ?_⟩
    have := congrArg (fun l => l[0]?) hc
    simpa using this
  obtain ⟨a0, q0⟩ := key 0 (by omega) _ rfl rfl (hf 0 _ rfl)
  obtain ⟨a1, q1⟩ := key 1 (by omega) _ rfl rfl (hf 1 _ rfl)
  obtain ⟨a2, q2⟩ := key 2 (by omega) _ rfl rfl (hf 2 _ rfl)
  obtain ⟨a3, q3⟩ := key 3 (by omega) _ rfl rfl (hf 3 _ rfl)
  obtain ⟨a4, q4⟩ := key 4 (by omega) _ rfl rfl (hf 4 _ rfl)
  obtain ⟨a5, q5⟩ := key 5 (by omega) _ rfl rfl (hf 5 _ rfl)
  obtain ⟨a6, q6⟩ := key 6 (by omega) _ rfl rfl (hf 6 _ rfl)
  obtain ⟨a7, q7⟩ := key 7 (by omega) _ rfl rfl (hf 7 _ rfl)
  refine ⟨⟨a0, a1, a2, a3, a4, a5, a6, a7⟩, ?_⟩
  have el : cs.toList = [I a0, I a1, I a2, I a3, I a4, I a5, I a6, I a7] := by
    apply List.ext_getElem?
    intro i
    by_cases hi : i < 8
    · have : i = 0 ∨ i = 1 ∨ i = 2 ∨ i = 3 ∨ i = 4 ∨ i = 5 ∨ i = 6 ∨ i = 7 := by omega
      rcases this with rfl | rfl | rfl | rfl | rfl | rfl | rfl | rfl
      · exact q0
      · exact q1
      · exact q2
      · exact q3
      · exact q4
      · exact q5
      · exact q6
      · exact q7
    · rw [List.getElem?_eq_none (by omega), List.getElem?_eq_none (by simp; omega)]
  show Value.agg cs = .agg #[I a0, I a1, I a2, I a3, I a4, I a5, I a6, I a7]
  have ec : cs = #[I a0, I a1, I a2, I a3, I a4, I a5, I a6, I a7] := Array.toList_inj.1 el
  rw [ec]

structure ScrAt (w : World) (v : Value) (n : Nat) (l : Nat → Int × Int × Int) : Prop where
  form : ∃ ao cap, v = .slice ao n cap ∧ n ≤ cap ∧ n ≤ maxLen ∧ ∀ i, i < n → ∃ b off, ao = some ⟨b, off, none⟩ ∧ b < w.heap.size ∧
    w.cell? ⟨b, off + i * 3, none⟩ = some (I (l i).1) ∧ w.cell? ⟨b, off + i * 3 + 1, none⟩ = some (I (l i).2.1) ∧ w.cell? ⟨b, off + i * 3 + 2, none⟩ = some (I (l i).2.2)

theorem ScrAt.below {w w' : World} {v : Value} {n : Nat} {l : Nat → Int × Int × Int} (h : ScrAt w v n l) (hb : Below w.heap.size w w') : ScrAt w' v n l := by
  obtain ⟨ao, cap, h1, h2, h3, h4⟩ := h.form
  refine ⟨⟨ao, cap, h1, h2, h3, fun i hi => ?_⟩⟩
  obtain ⟨b, off, e, lb, c0, c1, c2⟩ := h4 i hi
  exact ⟨b, off, e, Nat.lt_of_lt_of_le lb hb.size, (hb.cell (p := ⟨b, off + i * 3, none⟩) lb).trans c0, (hb.cell (p := ⟨b, off + i * 3 + 1, none⟩) lb).trans c1, (hb.cell (p := ⟨b, off + i * 3 + 2, none⟩) lb).trans c2⟩

/-- A list of raw numbers. -/
structure PicksIn (w : World) (v : Value) (n : Nat) (f : Nat → Int) : Prop where
  form : ∃ ao cap, v = .slice ao n cap ∧ n ≤ cap ∧ n ≤ maxLen ∧ ∀ i, i < n → -9223372036854775808 ≤ f i ∧ ∃ b off, ao = some ⟨b, off, none⟩ ∧ b < w.heap.size ∧ w.cell? ⟨b, off + i, none⟩ = some (I (f i))
set_option maxRecDepth 100000 in
theorem kop_open2 {H : Type} {enc : TypeId × Value → H} {W : World} {base n : Nat} {held : Bool} {sp : Nat → Bool} {cs : List Value} {x : DataW H × List MemPlace}
    (h : DataW.trod enc Try.prog W base sp held n 55 cs = some x) (hl : cs.length = 3) : ∃ q : Int × Int × Int, cs = [I q.1, I q.2.1, I q.2.2] := by
  obtain ⟨xs, m, h1, h2, _, hlen, hf⟩ := DataW.trod_struct Try.underlying55 h
  have hlen3 : xs.length = 3 := hlen
  have e1 : Try.prog.cellsOf 3 = 1 := by kernel_rfl
  have key : ∀ i, i < 3 → ∀ f : Field, f.type = 3 → f.offset = i → DataW.trod enc Try.prog W base sp held m f.type ((cs.drop f.offset).take (Try.prog.cellsOf f.type)) = xs[i]? → ∃ a : Int, cs[i]? = some (I a) := by
    intro i hi f ht ho hx
    rw [ht, ho, e1] at hx
    rw [List.getElem?_eq_getElem (by omega : i < xs.length)] at hx
    obtain ⟨a, hc, _⟩ := DataW.trod_int Try.underlying3 hx
    refine ⟨a, ?_⟩
    have := congrArg (fun l => l[0]?) hc
    simpa using this
  obtain ⟨a0, q0⟩ := key 0 (by omega) _ rfl rfl (hf 0 _ rfl)
  obtain ⟨a1, q1⟩ := key 1 (by omega) _ rfl rfl (hf 1 _ rfl)
  obtain ⟨a2, q2⟩ := key 2 (by omega) _ rfl rfl (hf 2 _ rfl)
  refine ⟨(a0, a1, a2), ?_⟩
  apply List.ext_getElem?
  intro i
  by_cases hi : i < 3
  · have : i = 0 ∨ i = 1 ∨ i = 2 := by omega
    rcases this with rfl | rfl | rfl
    · exact q0
    · exact q1
    · exact q2
  · rw [List.getElem?_eq_none (by omega), List.getElem?_eq_none (by simp; omega)]

theorem kscript_open2 {H : Type} {enc : TypeId × Value → H} {W : World} {base : Nat} {held : Bool} {ao : Option Addr} {len cap : Nat} {d : DataW H} {p : List MemPlace}
    (h : DataW.Trod enc Try.prog W base (fun _ => true) held 51 (.slice ao len cap) d p) : ∃ l, ScrAt W (.slice ao len cap) len l := by
  obtain ⟨fuel, hf⟩ := h
  rcases Go.Deep.open_slice Try.underlying51 hf with ⟨hcs, _⟩ | ⟨a, len', cap', m, n, D, Pl, hcs, _, hl, hm, hmm, _, hx⟩
  · simp [Value.cells] at hcs
    obtain ⟨rfl, rfl, rfl⟩ := hcs
    exact ⟨fun _ => (0, 0, 0), ⟨none, 0, rfl, Nat.le_refl _, Nat.zero_le _, fun i hi => absurd hi (by omega)⟩⟩
  · simp [Value.cells] at hcs
    obtain ⟨rfl, rfl, rfl⟩ := hcs
    have e3 : Try.prog.cellsOf 55 = 3 := by kernel_rfl
    simp only [if_true] at hmm
    subst hmm
    rw [e3] at hx
    have key : ∀ i, i < len → ∃ q : Int × Int × Int, ∃ b off, (some a : Option Addr) = some ⟨b, off, none⟩ ∧ b < W.heap.size ∧
        W.cell? ⟨b, off + i * 3, none⟩ = some (I q.1) ∧ W.cell? ⟨b, off + i * 3 + 1, none⟩ = some (I q.2.1) ∧ W.cell? ⟨b, off + i * 3 + 2, none⟩ = some (I q.2.2) := by
      intro i hi
      obtain ⟨cs', h1, h2⟩ := hx i (by omega)
      obtain ⟨_, hlen, hc⟩ := World.cells?_some h1
      obtain ⟨q, rfl⟩ := kop_open2 h2 hlen
      have c0 := hc 0 (by omega)
      have c1 := hc 1 (by omega)
      have c2 := hc 2 (by omega)
      obtain ⟨b, off, sp⟩ := a
      have hsp : sp = none := by
        cases sp with
        | none => rfl
        | some s =>
          exfalso
          obtain ⟨cs0, g1, g2⟩ := hx 0 (by omega)
          obtain ⟨_, glen, gc⟩ := World.cells?_some g1
          have g0 := gc 0 (by omega)
          rw [List.getElem?_eq_getElem (by omega)] at g0
          have ea : ((⟨b, off, some s⟩ : Addr).add (0 * 3)).add 0 = ⟨b, off, some s⟩ := by simp [Addr.add]
          rw [ea] at g0
          unfold World.cell? at g0
          split at g0 <;> simp at g0
      subst hsp
      have ad : ∀ j, ((⟨b, off, none⟩ : Addr).add (i * 3)).add j = ⟨b, off + i * 3 + j, none⟩ := by
        intro j
        unfold Addr.add
        split <;> split <;> simp_all
      rw [ad] at c0 c1 c2
      refine ⟨q, b, off, rfl, cell_lt c1, ?_, ?_, ?_⟩
      · simpa using c0
      · simpa using c1
      · simpa using c2
    obtain ⟨l, hl2⟩ := Go.Deep.choose_lt key
    exact ⟨l, ⟨some a, _, rfl, hl, Nat.le_trans hl hm, hl2⟩⟩

theorem kpicks_open {H : Type} {enc : TypeId × Value → H} {W : World} {base : Nat} {held : Bool} {ao : Option Addr} {len cap : Nat} {d : DataW H} {p : List MemPlace}
    (h : DataW.Trod enc Try.prog W base (fun _ => true) held 27 (.slice ao len cap) d p) : ∃ l, PicksIn W (.slice ao len cap) len l := by
  obtain ⟨fuel, hf⟩ := h
  rcases Go.Deep.open_slice Try.underlying27 hf with ⟨hcs, _⟩ | ⟨a, len', cap', m, n, D, Pl, hcs, _, hl, hm, hmm, _, hx⟩
  · simp [Value.cells] at hcs
    obtain ⟨rfl, rfl, rfl⟩ := hcs
    exact ⟨fun _ => 0, ⟨none, 0, rfl, Nat.le_refl _, Nat.zero_le _, fun i hi => absurd hi (by omega)⟩⟩
  · simp [Value.cells] at hcs
    obtain ⟨rfl, rfl, rfl⟩ := hcs
    have e1 : Try.prog.cellsOf 3 = 1 := by kernel_rfl
    simp only [if_true] at hmm
    subst hmm
    rw [e1] at hx
    have key : ∀ i, i < len → ∃ q : Int, -9223372036854775808 ≤ q ∧ ∃ b off, (some a : Option Addr) = some ⟨b, off, none⟩ ∧ b < W.heap.size ∧ W.cell? ⟨b, off + i, none⟩ = some (I q) := by
      intro i hi
      obtain ⟨cs', h1, h2⟩ := hx i (by omega)
      obtain ⟨_, hlen, hc⟩ := World.cells?_some h1
      obtain ⟨q, rfl, _, hwf⟩ := DataW.trod_int Try.underlying3 h2
      have c0 := hc 0 (by omega)
      obtain ⟨b, off, sp⟩ := a
      have hsp : sp = none := by
        cases sp with
        | none => rfl
        | some s =>
          exfalso
          obtain ⟨cs0, g1, g2⟩ := hx 0 (by omega)
          obtain ⟨_, glen, gc⟩ := World.cells?_some g1
          have g0 := gc 0 (by omega)
          rw [List.getElem?_eq_getElem (by omega)] at g0
          have ea : ((⟨b, off, some s⟩ : Addr).add (0 * 1)).add 0 = ⟨b, off, some s⟩ := by simp [Addr.add]
          rw [ea] at g0
          unfold World.cell? at g0
          split at g0 <;> simp at g0
      subst hsp
      have ad : ∀ j, ((⟨b, off, none⟩ : Addr).add (i * 1)).add j = ⟨b, off + i * 1 + j, none⟩ := by
        intro j
        unfold Addr.add
        split <;> split <;> simp_all
      rw [ad] at c0
      have c0' : W.cell? ⟨b, off + i, none⟩ = some (I q) := by simpa using c0
      exact ⟨q, (bounds_i64 hwf).1, b, off, rfl, cell_lt c0', c0'⟩
    obtain ⟨l, hl2⟩ := Go.Deep.choose_lt key
    exact ⟨l, ⟨some a, _, rfl, hl, Nat.le_trans hl hm, hl2⟩⟩

end Go.Proofs.Ytjnmpejcegmkhaa
