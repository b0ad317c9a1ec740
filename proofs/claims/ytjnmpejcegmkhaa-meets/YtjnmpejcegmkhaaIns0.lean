/- What is asked of a hand, of the document's tree beside it. No statement of the seat is proved here. -/
import Derived.Test.YtjnmpejcegmkhaaNew0
namespace Go.Proofs.Ytjnmpejcegmkhaa
open Go.RowKit

theorem KSt.at {w : World} {B hb : Nat} {c : Conf} {S : Gh} {P : PLay} (h : KSt w B hb c S P) {W : World} (hw : Below w.heap.size w W) (p : Nat) (hp : p < S.L.procs.length) :
    Calls Try.prog 44 #[.pointer (some ⟨hb, 0, none⟩), I p] W fun e w' => e = .returned (.agg #[I (S.L.procs[p]).2.phase, I (S.L.procs[p]).2.node, I (S.L.procs[p]).2.val]) ∧ Below W.heap.size W w' := by
  have := kat_c (h.rep.below hw) (p : Int)
  rw [h.told p hp] at this
  exact this
theorem KSt.nodes {w : World} {B hb : Nat} {c : Conf} {S : Gh} {P : PLay} (h : KSt w B hb c S P) {W : World} (hw : Below w.heap.size w W) :
    Calls Try.prog 17 #[.pointer (some ⟨P.tb, 0, none⟩)] W fun e w' => ∃ x l, e = .returned x ∧ NodesRep w' W.heap.size x l ∧ l.map (fun y => y.1) = rnodes S.L ∧ Below W.heap.size W w' :=
  (h.rel.rel.agree h.rel.ck.si h.rep.prog).nodes W hw
theorem KSt.shaped {w : World} {B hb : Nat} {c : Conf} {S : Gh} {P : PLay} (h : KSt w B hb c S P) {b : Nat} {x : Value} {l : List (ND × Value × Value)} (hr : NodesRep w b x l) (el : l.map (fun y => y.1) = rnodes S.L) :
    Calls Try.prog 23 #[.pointer (some ⟨hb, 0, none⟩), x] w fun e w' => e = .returned (.bool true) ∧ Below w.heap.size w w' := by
  have hc := h.rep.conf.2.1
  have hcf := h.rel.rel.confs
  have e : P.c.depth = ((c.depth.toNat : Nat) : Int) := by rw [h.rel.rel.cP]; omega
  rw [e] at hc
  exact shaped_c c.depth.toNat hc hr (by rw [el]; exact h.rel.shaped)
theorem KSt.opsAt {w : World} {B hb : Nat} {c : Conf} {S : Gh} {P : PLay} (h : KSt w B hb c S P) : ∃ ao cap, w.cell? ⟨hb, 9, none⟩ = some (.slice ao S.L.procs.length cap) ∧ S.L.procs.length ≤ cap ∧ S.L.procs.length ≤ 256 ∧ cap ≤ maxLen := by
  obtain ⟨_, _, _, ao, cap, c9, q1, q2, q3⟩ := h.rep.conf
  have e : S.ops.length = S.L.procs.length := h.rep.len.trans h.rel.plen
  rw [e] at c9 q1
  exact ⟨ao, cap, c9, q1, h.rel.rel.np, q3⟩

theorem KSt.told3 {w : World} {B hb : Nat} {c : Conf} {S : Gh} {P : PLay} (h : KSt w B hb c S P) : c.width = ((c.width.toNat : Nat) : Int) ∧ c.width.toNat ≤ 4 ∧ P.c = c := by
  have hcf := h.rel.rel.confs
  exact ⟨by omega, by omega, h.rel.rel.cP⟩

end Go.Proofs.Ytjnmpejcegmkhaa
