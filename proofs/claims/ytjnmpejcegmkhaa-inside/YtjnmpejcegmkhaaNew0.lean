/- A new hand. No statement of the seat is proved here. -/
import Derived.Test.YtjnmpejcegmkhaaShape
import Derived.Test.YtjnmpejcegmkhaaH4
namespace Go.Proofs.Ytjnmpejcegmkhaa
open Go.RowKit

/-- A new tree of the document, in no memory. -/
def newLay (c : Conf) : Lay := ⟨0, c, .slice none 0 0, [], .slice none 0 0, (List.range (2 ^ (c.depth.toNat + 1))).map fun u => (.slice none 0 0, if u = 0 then [] else newHist c.start u)⟩
theorem newLay_new (c : Conf) : NewLay c (newLay c) := by
  refine ⟨rfl, rfl, by simp [newLay], fun u h1 h2 => ?_, ?_⟩
  · have h2' : u < 2 ^ (c.depth.toNat + 1) := by simpa [newLay] using h2
    unfold Lay.hist newLay
    simp [List.getD_eq_getElem?_getD, h2']
    omega
  · unfold Lay.hist newLay
    have : 0 < 2 ^ (c.depth.toNat + 1) := Nat.two_pow_pos _
    simp [List.getD_eq_getElem?_getD, this]

theorem KSt.new {w : World} {B hb : Nat} {c : Conf} {P : PLay} (hm : mayC c = true) (h : KRep w B hb P [] []) (hp : PNew c P) (hB : B ≤ w.heap.size) : KSt w B hb c ⟨newLay c, [], []⟩ P :=
  ⟨h, crel_new hm (newLay_new c) hp h.prog.len, hB, ⟨rfl, rfl, fun _ hi => absurd hi (Nat.not_lt_zero _), fun _ hi => absurd hi (Nat.not_lt_zero _)⟩⟩

end Go.Proofs.Ytjnmpejcegmkhaa
