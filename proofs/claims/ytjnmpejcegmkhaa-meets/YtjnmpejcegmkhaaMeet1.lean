/- The steps of Meets, and apart. No statement of the seat is proved here. -/
import Derived.Test.YtjnmpejcegmkhaaH8
import Derived.Test.YtjnmpejcegmkhaaMeetPure
import Derived.Test.YtjnmpejcegmkhaaInsPure
import Derived.Test.YtjnmpejcegmkhaaIns0
import Derived.Test.YtjnmpejcegmkhaaKeep9
import Derived.Deep.DeepCutAuto
import Derived.Deep.QuietTactic
import Derived.BigQuiet
namespace Go.Proofs.Ytjnmpejcegmkhaa
open Go.RowKit

set_option maxHeartbeats 4000000 in
set_option maxRecDepth 100000 in
theorem hapart_c {w : World} {B hb : Nat} {c : Conf} {L : Lay} (h : KL w B hb c L) (h0 : 0 < L.procs.length) (h1 : 1 < L.procs.length) (ka va na kb vb nb val : Int) (hp : Parted (L.procs[0]).2 (L.procs[1]).2 ka kb val) :
    Calls Try.prog 22 #[.pointer (some ⟨hb, 0, none⟩), .agg #[I ka, I va, I na], .agg #[I kb, I vb, I nb], I val] w fun e w' => e = .returned (.bool true) ∧ Below w.heap.size w w' := by
  have ha := fun W (hW : Below w.heap.size w W) => hlat_c (h.below hW) 0 h0
  have hb' := fun W (hW : Below w.heap.size w W) => hlat_c (h.below hW) 1 h1
  generalize (L.procs[0]).2 = x at *
  generalize (L.procs[1]).2 = y at *
  have hb0 : Below w.heap.size w ((w.alloc (.cells #[I ka, I va, I na] 33)).alloc (.cells #[I kb, I vb, I nb] 33)) := ((Below.refl _ _).alloc (Nat.le_refl _) _).alloc (by simp) _
  have na' : ((w.alloc (.cells #[I ka, I va, I na] 33)).alloc (.cells #[I kb, I vb, I nb] 33)).heap[w.heap.size]? = some (.cells #[I ka, I va, I na] 33 (0, 0)) := by
    rw [Below.heap_alloc _ _ _ (by simp)]; exact nb_alloc _ _ _
  have nb' : ((w.alloc (.cells #[I ka, I va, I na] 33)).alloc (.cells #[I kb, I vb, I nb] 33)).heap[w.heap.size + 1]? = some (.cells #[I kb, I vb, I nb] 33 (0, 0)) := by
    have := nb_alloc (w.alloc (.cells #[I ka, I va, I na] 33)) #[I kb, I vb, I nb] 33
    simpa using this
  obtain ⟨ps, po⟩ := hp
  obtain ⟨_, _, _, xp, xn, xv, _⟩ := x
  obtain ⟨_, _, _, yp, yn, yv, _⟩ := y
  simp only at *
  replace ha : Hid _ := ha
  replace hb' : Hid _ := hb'
  replace ps : Hid _ := ps
  replace po : Hid _ := po
  clear h
  go_enter Try.func22, Try.ntmps22
  go_wp2_with fail
  refine Calls.mono (ha.out _ hb0) ?_
  rintro e w1 ⟨rfl, hb1⟩
  have hb2 := hb0.trans (hb1.mono hb0.size)
  have hb3 : Below w.heap.size w (w1.alloc (.cells #[I xp, I xn, I xv] 84)) := hb2.alloc hb2.size _
  go_wp2_with fail
  refine Calls.mono (hb'.out _ hb3) ?_
  rintro e w2 ⟨rfl, hb4⟩
  have hb5 := hb3.trans (hb4.mono hb3.size)
  have hb6 : Below w.heap.size w (w2.alloc (.cells #[I yp, I yn, I yv] 84)) := hb5.alloc hb5.size _
  have n1 : w1.heap[w.heap.size]? = _ := (hb1.block _ (by simp; omega)).trans na'
  have n2 : w1.heap[w.heap.size + 1]? = _ := (hb1.block _ (by simp)).trans nb'
  have l1 := (Array.getElem?_eq_some_iff.1 n1).1
  have l2 := (Array.getElem?_eq_some_iff.1 n2).1
  have n3 : w2.heap[w1.heap.size]? = some (.cells #[I xp, I xn, I xv] 84 (0, 0)) := (hb4.block _ (by simp)).trans (nb_alloc _ _ _)
  have m1 : w2.heap[w.heap.size]? = _ := (hb4.block _ (by simp; omega)).trans ((Below.heap_alloc _ _ _ l1).trans n1)
  have m2 : w2.heap[w.heap.size + 1]? = _ := (hb4.block _ (by simp; omega)).trans ((Below.heap_alloc _ _ _ l2).trans n2)
  obtain ⟨a1, _⟩ := nb_facts m1
  obtain ⟨a2, _⟩ := nb_facts m2
  obtain ⟨a3, _⟩ := nb_facts n3
  have k1 := (Array.getElem?_eq_some_iff.1 m1).1
  have k2 := (Array.getElem?_eq_some_iff.1 m2).1
  have k3 := (Array.getElem?_eq_some_iff.1 n3).1
  have HB6 : Hid _ := hb6
  clear hb0 hb1 hb2 hb3 hb4 hb5 hb6 na' nb' n1 n2 m1 m2 n3 l1 l2 ha hb'
  by_cases e : ka = kb
  · obtain ⟨rfl, rfl, rfl, rfl⟩ := ps.out e
    have be : (ka == kb) = true := by rw [beq_iff_eq]; exact e
    clear e ps po
    go_wp2_with fail
    go_ret
    exact ⟨rfl, HB6.out⟩
  · obtain ⟨rfl, rfl, rfl, rfl, p1, p2⟩ := po.out e
    have be : (ka == kb) = false := by rw [beq_eq_false_iff_ne]; exact e
    by_cases e2 : ka = 2
    · obtain ⟨rfl, rfl⟩ := p1 e2
      have b2 : (ka == 2) = true := by rw [beq_iff_eq]; exact e2
      clear e ps po p1 p2 e2
      go_wp2_with fail
      go_ret
      exact ⟨rfl, HB6.out⟩
    · obtain ⟨rfl, rfl⟩ := p2 e2
      have b2 : (ka == 2) = false := by rw [beq_eq_false_iff_ne]; exact e2
      clear e ps po p1 p2 e2
      go_wp2_with fail
      go_ret
      exact ⟨rfl, HB6.out⟩

theorem NodesRep.chg2 {w w' : World} {B b : Nat} {x : Value} {l : List (ND × Value × Value)} {T : List TypeId} (h : NodesRep w b x l) (hc : ChgT B T w w') (h1 : 49 ∉ T) (h2 : 3 ∉ T) : NodesRep w' b x l :=
  ⟨hc.row h.row h1, fun y hy => hc.row (h.waiting y hy) h2, fun y hy => hc.row (h.items y hy) h2⟩

theorem two_len (K : Lay) (p q : Pr) : (two K p q).procs.length = 2 := rfl

def seqA (K : Lay) (p q : Pr) (W d s : Int) : Nat → Lay
  | 0 => two K p q
  | 1 => two K (pw1 p) q
  | 2 => two K (pw2 p) q
  | 3 => two K (pw3 W d p) q
  | 4 => two K (pw4 W d p) q
  | _ => two K (pw5 W d s p) q
def seqB (K : Lay) (x q : Pr) (W d : Int) : Nat → Lay
  | 0 => two K x q
  | 1 => two K x (pw1 q)
  | 2 => two K x (pw2 q)
  | 3 => two K x (pw3 W d q)
  | _ => two K x (m4 W d q)
def seqC (K : Lay) (x x' y y' : Pr) : Nat → Lay
  | 0 => two K x y
  | _ => two K x' y'
def seqD (K : Lay) (x x' x'' y : Pr) : Nat → Lay
  | 0 => two K x y
  | 1 => two K x' y
  | _ => two K x'' y

section
variable {w : World} {B hb : Nat} {c : Conf} {K : Lay} {p q : Pr} {d : Int}

theorem runA (hp : FreshP p) (hq : FreshP q) (hf : formH (K.hist 1) = 1) (h : KL w B hb c (two K p q)) :
    Calls Try.prog 19 #[.pointer (some ⟨hb, 0, none⟩), .int .i64 0, .int .i64 5, I d] w fun e w' => e = .returned (.tuple #[I 6, .bool true]) ∧ KL w' B hb c (two K (pw5 (widthH (K.hist 1)) d K.c.spin p) q) ∧ ChgT B KS w w' ∧ ∀ k cs, Free w hb k cs → Free w' hb k cs := by
  have hq0 := hq.phase
  refine hrun_c 0 d 5 (by omega) (seqA K p q (widthH (K.hist 1)) d K.c.spin) h ?_ ?_ ?_
  · intro k hk
    rcases (show k = 0 ∨ k = 1 ∨ k = 2 ∨ k = 3 ∨ k = 4 ∨ k = 5 by omega) with rfl | rfl | rfl | rfl | rfl | rfl <;> exact Nat.zero_lt_two
  · intro k hk
    rcases (show k = 0 ∨ k = 1 ∨ k = 2 ∨ k = 3 ∨ k = 4 by omega) with rfl | rfl | rfl | rfl | rfl
    · show p.phase ≠ 20
      rw [hp.phase]; decide
    · show (1 : Int) ≠ 20
      decide
    · show (3 : Int) ≠ 20
      decide
    · show (4 : Int) ≠ 20
      decide
    · show (5 : Int) ≠ 20
      decide
  · intro k hk
    rcases (show k = 0 ∨ k = 1 ∨ k = 2 ∨ k = 3 ∨ k = 4 by omega) with rfl | rfl | rfl | rfl | rfl
    · exact two_w1 K p q d hp
    · exact two_w2 K p q d hp (by omega) hf
    · exact two_w3 K p q d hp
    · exact two_w4 K p q _ d (by omega)
    · exact two_w5 K p q _ d (by omega)

theorem runB (hp : FreshP p) (hq : FreshP q) (hf : formH (K.hist 1) = 1) (h : KL w B hb c (two K (pw5 (widthH (K.hist 1)) d K.c.spin p) q)) :
    Calls Try.prog 19 #[.pointer (some ⟨hb, 0, none⟩), .int .i64 1, .int .i64 4, I d] w fun e w' => e = .returned (.tuple #[I 8, .bool true]) ∧ KL w' B hb c (two K (pw5 (widthH (K.hist 1)) d K.c.spin p) (m4 (widthH (K.hist 1)) d q)) ∧ ChgT B KS w w' ∧ ∀ k cs, Free w hb k cs → Free w' hb k cs := by
  refine hrun_c 1 d 4 (by omega) (seqB K (pw5 (widthH (K.hist 1)) d K.c.spin p) q (widthH (K.hist 1)) d) h ?_ ?_ ?_
  · intro k hk
    rcases (show k = 0 ∨ k = 1 ∨ k = 2 ∨ k = 3 ∨ k = 4 by omega) with rfl | rfl | rfl | rfl | rfl <;> exact Nat.one_lt_two
  · intro k hk
    rcases (show k = 0 ∨ k = 1 ∨ k = 2 ∨ k = 3 by omega) with rfl | rfl | rfl | rfl
    · show q.phase ≠ 20
      rw [hq.phase]; decide
    · show (1 : Int) ≠ 20
      decide
    · show (3 : Int) ≠ 20
      decide
    · show (4 : Int) ≠ 20
      decide
  · intro k hk
    rcases (show k = 0 ∨ k = 1 ∨ k = 2 ∨ k = 3 by omega) with rfl | rfl | rfl | rfl
    · exact two_v1 K _ q d hq
    · exact two_v2 K _ q d hq (show (6 : Int) < 16 by decide) hf
    · exact two_v3 K _ q d hq
    · exact two_v4 K p q _ d _ hp hq

theorem runC (W s : Int) (hp : FreshP p) (hq : FreshP q) (h : KL w B hb c (two K (pw5 W d s p) (m4 W d q))) :
    Calls Try.prog 19 #[.pointer (some ⟨hb, 0, none⟩), .int .i64 1, .int .i64 1, I d] w fun e w' => (∃ x, e = .returned (.tuple #[I x, .bool true])) ∧ KL w' B hb c (two K { pw5 W d s p with met := 1 } (settledPr (incPr (m4 W d q)) (pw5 W d s p) 1)) ∧ ChgT B KS w w' ∧ ∀ k cs, Free w hb k cs → Free w' hb k cs := by
  refine (hrun_c 1 d 1 (by omega) (seqC K (pw5 W d s p) { pw5 W d s p with met := 1 } (m4 W d q) (settledPr (incPr (m4 W d q)) (pw5 W d s p) 1)) h ?_ ?_ ?_).mono fun e w' ⟨he, hr⟩ => ⟨⟨_, he⟩, hr⟩
  · intro k hk
    rcases (show k = 0 ∨ k = 1 by omega) with rfl | rfl <;> exact Nat.one_lt_two
  · intro k hk
    obtain rfl : k = 0 := by omega
    show (8 : Int) ≠ 20
    decide
  · intro k hk
    obtain rfl : k = 0 := by omega
    exact two_v5 K p q W d s hp hq

theorem runD (W s : Int) (y : Pr) (h : KL w B hb c (two K { pw5 W d s p with met := 1 } y)) :
    Calls Try.prog 19 #[.pointer (some ⟨hb, 0, none⟩), .int .i64 0, .int .i64 2, I d] w fun e w' => (∃ x, e = .returned (.tuple #[I x, .bool true])) ∧ KL w' B hb c (two K (settledPr { incPr (pw6 W d s p) with met := -1 } y 0) y) ∧ ChgT B KS w w' ∧ ∀ k cs, Free w hb k cs → Free w' hb k cs := by
  refine (hrun_c 0 d 2 (by omega) (seqD K { pw5 W d s p with met := 1 } (pw6 W d s p) (settledPr { incPr (pw6 W d s p) with met := -1 } y 0) y) h ?_ ?_ ?_).mono fun e w' ⟨he, hr⟩ => ⟨⟨_, he⟩, hr⟩
  · intro k hk
    rcases (show k = 0 ∨ k = 1 ∨ k = 2 by omega) with rfl | rfl | rfl <;> exact Nat.zero_lt_two
  · intro k hk
    rcases (show k = 0 ∨ k = 1 by omega) with rfl | rfl
    · show (6 : Int) ≠ 20
      decide
    · show (7 : Int) ≠ 20
      decide
  · intro k hk
    rcases (show k = 0 ∨ k = 1 by omega) with rfl | rfl
    · exact two_w6 K p y W d s
    · exact two_w7 K p y W d s
end

theorem fresh_new (o : Op3) (h : o.kind < 3) : FreshP (newPr o) := by
  refine ⟨?_, rfl, rfl, h⟩
  unfold newPr
  have : isChange o = false := by unfold isChange; simp; omega
  simp [this]

theorem new_form {c : Conf} (hm : mayC c = true) (h1 : 1 ≤ c.start) : formH ((newLay c).hist 1) = 1 := by
  have hc : 0 ≤ c.depth ∧ c.depth ≤ 4 ∧ c.start ≤ c.depth := by simp [mayC] at hm; omega
  rw [(newLay_new c).hist 1 (by omega) (by rw [(newLay_new c).len]; have : 2 ^ 1 ≤ 2 ^ (c.depth.toNat + 1) := Nat.pow_le_pow_right (by omega) (by omega); omega)]
  unfold newHist
  have e : Nat.log2 1 = 0 := by decide
  rw [e, if_pos (by omega)]
  rfl

end Go.Proofs.Ytjnmpejcegmkhaa
