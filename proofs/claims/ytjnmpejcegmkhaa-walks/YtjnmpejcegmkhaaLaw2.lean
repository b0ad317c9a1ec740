/- Contracts of the statements' own wanted and looks (package prismlaw). No statement of the seat is proved here. -/
import Derived.Test.YtjnmpejcegmkhaaRefSpawn2
import Derived.Test.YtjnmpejcegmkhaaLaw1
namespace Go.Proofs.Ytjnmpejcegmkhaa
open Go.RowKit

/-- What a step of a script spawns. -/
def wantOp (k a b : Int) : Op3 := if k = 1 then ⟨0, a, b⟩ else if k = 2 then ⟨1, a, b⟩ else if k = 3 then ⟨2, a, b⟩ else if k = 4 then ⟨3, b, a⟩ else if k = 5 then ⟨4, b, a⟩ else ⟨a, b, b⟩

set_option maxHeartbeats 4000000 in
theorem wanted_c (k a b : Int) (hk : k = 1 ∨ k = 2 ∨ k = 3 ∨ k = 4 ∨ k = 5 ∨ k = 6) (w : World) : Calls Try.prog 63 #[.agg #[I k, I a, I b]] w fun e w' => e = .returned (.tuple #[opV (wantOp k a b), .bool true]) ∧ Below w.heap.size w w' := by
  unfold opV
  rcases hk with rfl | rfl | rfl | rfl | rfl | rfl
  · have e1 : wantOp 1 a b = ⟨0, a, b⟩ := rfl
    rw [e1]
    clear e1
    go_enter Try.func63, Try.ntmps63
    go_wp2
    exact bodyPost_ret (v := .tuple #[.agg #[I 0, I a, I b], .bool true]) (by simp [results, Try.results63, go_sem]) rfl ⟨rfl, ((Below.refl _ _).alloc (Nat.le_refl _) _).alloc (by simp) _⟩
  · have e1 : wantOp 2 a b = ⟨1, a, b⟩ := rfl
    rw [e1]
    clear e1
    go_enter Try.func63, Try.ntmps63
    go_wp2
    exact bodyPost_ret (v := .tuple #[.agg #[I 1, I a, I b], .bool true]) (by simp [results, Try.results63, go_sem]) rfl ⟨rfl, ((Below.refl _ _).alloc (Nat.le_refl _) _).alloc (by simp) _⟩
  · have e1 : wantOp 3 a b = ⟨2, a, b⟩ := rfl
    rw [e1]
    clear e1
    go_enter Try.func63, Try.ntmps63
    go_wp2
    exact bodyPost_ret (v := .tuple #[.agg #[I 2, I a, I b], .bool true]) (by simp [results, Try.results63, go_sem]) rfl ⟨rfl, ((Below.refl _ _).alloc (Nat.le_refl _) _).alloc (by simp) _⟩
  · have e1 : wantOp 4 a b = ⟨3, b, a⟩ := rfl
    rw [e1]
    clear e1
    go_enter Try.func63, Try.ntmps63
    go_wp2
    exact bodyPost_ret (v := .tuple #[.agg #[I 3, I b, I a], .bool true]) (by simp [results, Try.results63, go_sem]) rfl ⟨rfl, ((Below.refl _ _).alloc (Nat.le_refl _) _).alloc (by simp) _⟩
  · have e1 : wantOp 5 a b = ⟨4, b, a⟩ := rfl
    rw [e1]
    clear e1
    go_enter Try.func63, Try.ntmps63
    go_wp2
    exact bodyPost_ret (v := .tuple #[.agg #[I 4, I b, I a], .bool true]) (by simp [results, Try.results63, go_sem]) rfl ⟨rfl, ((Below.refl _ _).alloc (Nat.le_refl _) _).alloc (by simp) _⟩
  · have e1 : wantOp 6 a b = ⟨a, b, b⟩ := rfl
    rw [e1]
    clear e1
    go_enter Try.func63, Try.ntmps63
    go_wp2
    exact bodyPost_ret (v := .tuple #[.agg #[I a, I b, I b], .bool true]) (by simp [results, Try.results63, go_sem]) rfl ⟨rfl, ((Below.refl _ _).alloc (Nat.le_refl _) _).alloc (by simp) _⟩

/-- Nothing came out that the caller kept: looks says so. -/
theorem looks_c {w : World} {lb : Nat} {pt rt : Value} {mk : Int} (h : w.heap[lb]? = some (.cells #[pt, rt, .slice none 0 0, .slice none 0 0, .slice none 0 0, I mk] 103 (0, 0))) :
    Calls Try.prog 34 #[.pointer (some ⟨lb, 0, none⟩)] w fun e w' => e = .returned (.bool true) ∧ w' = w := by
  obtain ⟨f1, _⟩ := nb_facts h
  have c2 := f1 2
  have c4 := f1 4
  simp at c2 c4
  clear h f1
  go_enter Try.func34, Try.ntmps34
  go_wp2_with fail
  refine wp_loop_rounds 1 ?_
  rw [rounds_succ]
  go_wp2_with fail
  refine wp_loop_rounds 1 ?_
  rw [rounds_succ]
  go_wp2_with fail
  go_ret
  exact ⟨rfl, rfl⟩

end Go.Proofs.Ytjnmpejcegmkhaa
