/- The statement News: for every configuration (any eight numbers) the call of prismlaw.News returns true, and its argument reads as it did before. No condition. -/
import Derived.Test.YtjnmpejcegmkhaaRows
import Derived.Test.YtjnmpejcegmkhaaSpZ
import Derived.WalkKit
import Derived.ProofKit
import Derived.OpenShut
import Derived.Carry
import Derived.Lib.SmallJoins
namespace Go.Proofs.Ytjnmpejcegmkhaa
open Go.ChangeShapes Go.WideShapes Go.ChangeAt Go.RowKit Go.Joins

theorem ownK : ownKnob Try.prog.godebug = none := by kernel_rfl

set_option maxRecDepth 100000 in
theorem conf_open {H : Type} {enc : TypeId × Value → H} {W : World} {base : Nat} {held : Bool} {sp : Nat → Bool} {v : Value} {d : DataW H} {p : List MemPlace} {r : Reach} {b0 : Nat}
    (hv : Value.okWide Try.prog W r b0 23 v) (h : DataW.Trod enc Try.prog W base sp held 23 v d p) : ∃ c : Conf, v = confV c := by
  obtain ⟨cs, rfl, hsz⟩ := okWide_struct Try.underlying23 hv
  obtain ⟨fuel, hf⟩ := h
  obtain ⟨xs, n, h1, h2, hl, hlen, hf⟩ := DataW.trod_struct Try.underlying23 hf
  have hlen8 : xs.length = 8 := hlen
  have hcs8 : cs.toList.length = 8 := by
    have e8 : Try.prog.cellsOf 23 = 8 := by kernel_rfl
    rw [Array.length_toList, hsz, e8]
  have e1 : Try.prog.cellsOf 3 = 1 := by kernel_rfl
  have key : ∀ i, i < 8 → ∀ f : Field, f.type = 3 → f.offset = i → DataW.trod enc Try.prog W base sp held n f.type ((cs.toList.drop f.offset).take (Try.prog.cellsOf f.type)) = xs[i]? → ∃ a : Int, cs.toList[i]? = some (I a) := by
    intro i hi f ht ho hx
    rw [ht, ho, e1] at hx
    rw [List.getElem?_eq_getElem (by omega : i < xs.length)] at hx
    obtain ⟨a, hc, _⟩ := DataW.trod_int Try.underlying3 hx
    refine ⟨a, ?_⟩
    have := congrArg (fun l => l[0]?) hc
    simpa using this
  obtain ⟨a0, q0⟩ := key 0 (by omega) _ rfl rfl (hf 0 _ rfl)
  obtain ⟨a1, q1⟩ := key 1 (by omega) _ rfl rfl (hf 1 _ rfl)
  obtain ⟨a2, q2⟩ := key 2 (by omega) _ rfl rfl (hf 2 _ rfl)
  obtain ⟨a3, q3⟩ := key 3 (by omega) _ rfl rfl (hf 3 _ rfl)
  obtain ⟨a4, q4⟩ := key 4 (by omega) _ rfl rfl (hf 4 _ rfl)
  obtain ⟨a5, q5⟩ := key 5 (by omega) _ rfl rfl (hf 5 _ rfl)
  obtain ⟨a6, q6⟩ := key 6 (by omega) _ rfl rfl (hf 6 _ rfl)
  obtain ⟨a7, q7⟩ := key 7 (by omega) _ rfl rfl (hf 7 _ rfl)
  refine ⟨⟨a0, a1, a2, a3, a4, a5, a6, a7⟩, ?_⟩
  have el : cs.toList = [I a0, I a1, I a2, I a3, I a4, I a5, I a6, I a7] := by
    apply List.ext_getElem?
    intro i
    by_cases hi : i < 8
    · have : i = 0 ∨ i = 1 ∨ i = 2 ∨ i = 3 ∨ i = 4 ∨ i = 5 ∨ i = 6 ∨ i = 7 := by omega
      rcases this with rfl | rfl | rfl | rfl | rfl | rfl | rfl | rfl
      · exact q0
      · exact q1
      · exact q2
      · exact q3
      · exact q4
      · exact q5
      · exact q6
      · exact q7
    · rw [List.getElem?_eq_none (by omega), List.getElem?_eq_none (by simp; omega)]
  show Value.agg cs = .agg #[I a0, I a1, I a2, I a3, I a4, I a5, I a6, I a7]
  have ec : cs = #[I a0, I a1, I a2, I a3, I a4, I a5, I a6, I a7] := Array.toList_inj.1 el
  rw [ec]

theorem laidOut : laidOutB Try.prog = true := by kernel_rfl


end Go.Proofs.Ytjnmpejcegmkhaa
