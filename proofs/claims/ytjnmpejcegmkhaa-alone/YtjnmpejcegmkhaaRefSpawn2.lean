/- The contract of package prismref's Spawn where it is refused. No statement of the seat is proved here. -/
import Derived.Test.YtjnmpejcegmkhaaRefB
namespace Go.Proofs.Ytjnmpejcegmkhaa
open Go.RowKit
set_option linter.unusedVariables false

theorem noOp_ways (c : Conf) (o : Op3) (h : ¬ okOp c o) : ((o.kind == 0) = true ∧ (c.kind == 0) = false ∧ (o.kind == 1) = false ∧ (o.kind == 2) = false ∧ isChange o = false) ∨ ((o.kind == 0) = false ∧ (o.kind == 1) = true ∧ (c.kind == 1) = false ∧ isChange o = false) ∨ ((o.kind == 0) = false ∧ (o.kind == 1) = false ∧ (o.kind == 2) = true ∧ (c.kind == 1) = false ∧ isChange o = false) ∨
    ((o.kind == 0) = false ∧ (o.kind == 1) = false ∧ (o.kind == 2) = false ∧ isChange o = false) ∨ ((o.kind == 0) = false ∧ (o.kind == 1) = false ∧ (o.kind == 2) = false ∧ isChange o = true ∧ o.node < 1) ∨
    ((o.kind == 0) = false ∧ (o.kind == 1) = false ∧ (o.kind == 2) = false ∧ isChange o = true ∧ 1 ≤ o.node ∧ ((2 ^ c.depth.toNat : Nat) : Int) ≤ o.node) := by
  unfold okOp at h
  simp only [isChange, beq_iff_eq, beq_eq_false_iff_ne, Bool.or_eq_false_iff, Bool.or_eq_true, decide_eq_true_eq, decide_eq_false_iff_not]
  omega

set_option maxHeartbeats 8000000 in
theorem rspawn_err2 {w : World} {B : Nat} {L : Lay} (h : RefRep w B L) (o : Op3) (ho : ¬ okOp L.c o) (hd0 : 0 ≤ L.c.depth) (hd4 : L.c.depth ≤ 4) :
    Calls Try.prog 1000027 #[.pointer (some ⟨L.tb, 0, none⟩), opV o] w fun e w' => e = .returned (.tuple #[I 0, I 2]) ∧ Below w.heap.size w w' := h.no.elim
set_option maxHeartbeats 8000000 in
theorem rspawn_err3 {w : World} {B : Nat} {L : Lay} (h : RefRep w B L) (o : Op3) (ho : okOp L.c o) (hn : L.procs.length = 256) (hd0 : 0 ≤ L.c.depth) (hd4 : L.c.depth ≤ 4) :
    Calls Try.prog 1000027 #[.pointer (some ⟨L.tb, 0, none⟩), opV o] w fun e w' => e = .returned (.tuple #[I 0, I 3]) ∧ Below w.heap.size w w' := h.no.elim
set_option maxHeartbeats 8000000 in
theorem rspawn_err4 {w : World} {B : Nat} {L : Lay} (h : RefRep w B L) (o : Op3) (ho : okOp L.c o) (hn : L.procs.length < 256) (hlv : (liveL L.procs : Int) = L.c.procs) (hd0 : 0 ≤ L.c.depth) (hd4 : L.c.depth ≤ 4) :
    Calls Try.prog 1000027 #[.pointer (some ⟨L.tb, 0, none⟩), opV o] w fun e w' => e = .returned (.tuple #[I 0, I 4]) ∧ Below w.heap.size w w' := h.no.elim
end Go.Proofs.Ytjnmpejcegmkhaa
