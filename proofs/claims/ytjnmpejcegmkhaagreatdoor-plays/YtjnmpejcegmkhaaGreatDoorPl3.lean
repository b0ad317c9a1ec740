/- Contracts of package prismref's said, begins, does: by those of the calls that they make. No statement of the seat is proved here. Contract of package prismref's leaves. No statement of the seat is proved here. A tree of the document in memory, beside the same tree in no memory: the contracts of its calls by the answers alone. No statement of the seat is proved here. The program plays a command: contracts of playSpawn and play. No statement of the seat is proved here. A script spelt step by step, and its answers beside it. Of no program. No statement of the seat is proved here. The program's Play: its contract. No statement of the seat is proved here. -/
import Derived.Test.YtjnmpejcegmkhaaGreatDoorTx5
import Derived.Deep.Cut
import Derived.Deep.DeepCutAuto
import Derived.Test.YtjnmpejcegmkhaaGreatDoorPq0
namespace Go.Proofs.YtjnmpejcegmkhaaGreatDoor
open Go.RowKit

set_option maxHeartbeats 2000000 in
theorem rsaid_c (n e : Int) (hn : I6 n) (he : I6 e) {w : World} (h : Tab w) : Calls Tryz.prog 33 #[I n, I e] w fun x w' => x = .returned (S (numT n e)) ∧ Below w.heap.size w w' := by
  unfold numT
  by_cases h0 : e = 0
  · rw [if_pos h0]
    subst h0
    have h1 := itoa_c n hn.1 hn.2 h
    replace h1 : Hid _ := h1
    generalize Lib.itoa n = l at *
    clear hn he
    go_enter Tryz.func33, Tryz.ntmps33
    go_wp2_with fail
    refine Calls.mono h1.out ?_
    rintro x w1 ⟨rfl, hb⟩
    go_wp2
    go_ret
    exact ⟨rfl, hb⟩
  · rw [if_neg h0]
    have h1 := itoa_c e he.1 he.2 h
    replace h1 : Hid _ := h1
    have hl := he.len
    have hSA := S_app
    have b0 : (e != 0) = true := by simpa using h0
    generalize Lib.itoa e = l at *
    clear hn he
    go_enter Tryz.func33, Tryz.ntmps33
    go_wp2_with fail
    refine Calls.mono h1.out ?_
    rintro x w1 ⟨rfl, hb⟩
    go_wp2
    go_ret
    exact ⟨rfl, hb⟩

/-- What holds behind a call and goes on holding. -/
structure Keeps (K : World → Prop) : Prop where
  on : ∀ W W', K W → Below W.heap.size W W' → K W'
  tab : ∀ W, K W → Tab W

set_option maxHeartbeats 4000000 in
theorem rbegins_c (tp : Value) (o : Op3) (n er : Int) (hn : I6 n) (he : I6 er) {K : World → Prop} (hK : Keeps K) {w : World}
    (hS : ∀ W, Below w.heap.size w W → Calls Tryz.prog 49 #[tp, opV o] W fun e w' => e = .returned (.tuple #[I n, I er]) ∧ K w') :
    Calls Tryz.prog 30 #[tp, opV o] w fun e w' => e = .returned (S (numT n er)) ∧ K w' := by
  have h2 : Hid (∀ W, Tab W → Calls Tryz.prog 33 #[I n, I er] W fun x w' => x = .returned (S (numT n er)) ∧ Below W.heap.size W w') := fun W hW => rsaid_c _ _ hn he hW
  replace hS : Hid _ := hS
  generalize numT n er = t at *
  unfold opV at hS ⊢
  have hB0 : Hid (Below w.heap.size w (w.alloc (.cells #[I o.kind, I o.val, I o.node] 77))) := (Below.refl _ _).alloc (Nat.le_refl _) _
  clear hn he
  go_enter Tryz.func30, Tryz.ntmps30
  go_wp2_with fail
  refine Calls.mono (hS.out _ hB0.out) ?_
  rintro e w1 ⟨rfl, hr⟩
  have h3 := h2.out w1 (hK.tab _ hr)
  replace h3 : Hid _ := h3
  replace hr : Hid _ := hr
  clear hS h2
  go_wp2_with fail
  refine Calls.mono h3.out ?_
  rintro e w2 ⟨rfl, hb⟩
  go_wp2
  go_ret
  exact ⟨rfl, hK.on _ _ hr.out hb⟩

set_option maxHeartbeats 4000000 in
set_option maxRecDepth 100000 in
theorem does_105 (tp : Value) (t : List UInt8) {K : World → Prop} {w : World}
    (hS : ∀ W, Below w.heap.size w W → Calls Tryz.prog 30 #[tp, .agg #[I 0, I 0, I 0]] W fun e w' => e = .returned (S t) ∧ K w') :
    Calls Tryz.prog 13 #[tp, S [105]] w fun e w' => e = .returned (S t) ∧ K w' := by
  have hex := hex_c 105 []
  have hx := hx_c 105 []
  simp only [List.length_nil] at hex
  have h1 := hS w (Below.refl _ _)
  replace h1 : Hid _ := h1
  clear hS
  go_enter Tryz.func13, Tryz.ntmps13
  go_wp2_with fail
  refine Calls.mono h1.out ?_
  rintro e w1 ⟨rfl, hr⟩
  replace hr : Hid _ := hr
  go_wp2
  go_ret
  exact ⟨rfl, hr.out⟩

set_option maxHeartbeats 4000000 in
set_option maxRecDepth 100000 in
theorem does_103 (tp : Value) (t : List UInt8) {K : World → Prop} {w : World}
    (hS : ∀ W, Below w.heap.size w W → Calls Tryz.prog 30 #[tp, .agg #[I 2, I 0, I 0]] W fun e w' => e = .returned (S t) ∧ K w') :
    Calls Tryz.prog 13 #[tp, S [103]] w fun e w' => e = .returned (S t) ∧ K w' := by
  have hex := hex_c 103 []
  have hx := hx_c 103 []
  simp only [List.length_nil] at hex
  have h1 := hS w (Below.refl _ _)
  replace h1 : Hid _ := h1
  clear hS
  go_enter Tryz.func13, Tryz.ntmps13
  go_wp2_with fail
  refine Calls.mono h1.out ?_
  rintro e w1 ⟨rfl, hr⟩
  replace hr : Hid _ := hr
  go_wp2
  go_ret
  exact ⟨rfl, hr.out⟩

set_option maxHeartbeats 4000000 in
set_option maxRecDepth 100000 in
theorem does_102 (tp : Value) (r : List UInt8) (hr : digB r = true) (hl : r.length < 600) (t : List UInt8) {K : World → Prop} {w : World}
    (hS : ∀ W, Below w.heap.size w W → Calls Tryz.prog 30 #[tp, .agg #[I 3, I 0, I (valOf r)]] W fun e w' => e = .returned (S t) ∧ K w') :
    Calls Tryz.prog 13 #[tp, S (102 :: r)] w fun e w' => e = .returned (S t) ∧ K w' := by
  have hex := hex_c 102 r
  have hx := hx_c 102 r
  have hv := rvalue_c r hr w
  replace hv : Hid _ := hv
  replace hS : Hid _ := hS
  generalize valOf r = v at *
  clear hr
  go_enter Tryz.func13, Tryz.ntmps13
  go_wp2_with fail
  refine Calls.mono hv.out ?_
  rintro e w0 ⟨rfl, hb0⟩
  have h1 := hS.out w0 hb0
  replace h1 : Hid _ := h1
  clear hv hS
  go_wp2_with fail
  refine Calls.mono h1.out ?_
  rintro e w1 ⟨rfl, hk⟩
  replace hk : Hid _ := hk
  go_wp2
  go_ret
  exact ⟨rfl, hk.out⟩

set_option maxHeartbeats 4000000 in
set_option maxRecDepth 100000 in
theorem does_117 (tp : Value) (r : List UInt8) (hr : digB r = true) (hl : r.length < 600) (t : List UInt8) {K : World → Prop} {w : World}
    (hS : ∀ W, Below w.heap.size w W → Calls Tryz.prog 30 #[tp, .agg #[I 4, I 0, I (valOf r)]] W fun e w' => e = .returned (S t) ∧ K w') :
    Calls Tryz.prog 13 #[tp, S (117 :: r)] w fun e w' => e = .returned (S t) ∧ K w' := by
  have hex := hex_c 117 r
  have hx := hx_c 117 r
  have hv := rvalue_c r hr w
  replace hv : Hid _ := hv
  replace hS : Hid _ := hS
  generalize valOf r = v at *
  clear hr
  go_enter Tryz.func13, Tryz.ntmps13
  go_wp2_with fail
  refine Calls.mono hv.out ?_
  rintro e w0 ⟨rfl, hb0⟩
  have h1 := hS.out w0 hb0
  replace h1 : Hid _ := h1
  clear hv hS
  go_wp2_with fail
  refine Calls.mono h1.out ?_
  rintro e w1 ⟨rfl, hk⟩
  replace hk : Hid _ := hk
  go_wp2
  go_ret
  exact ⟨rfl, hk.out⟩

set_option maxHeartbeats 4000000 in
set_option maxRecDepth 100000 in
theorem does_112m (tp : Value) (r : List UInt8) (hr : digB r = true) (hl : r.length < 600) (t : List UInt8) {K : World → Prop} {w : World}
    (hS : ∀ W, Below w.heap.size w W → Calls Tryz.prog 30 #[tp, .agg #[I 1, I (-(valOf r)), I 0]] W fun e w' => e = .returned (S t) ∧ K w') :
    Calls Tryz.prog 13 #[tp, S (112 :: 45 :: r)] w fun e w' => e = .returned (S t) ∧ K w' := by
  have hex : (⟨(112 :: 45 :: r).toArray⟩ : ByteArray).extract 1 (r.length + 1 + 1) = ⟨(45 :: r).toArray⟩ := hex_c 112 (45 :: r)
  have hx := hx_c 112 (45 :: r)
  have hex2 := hex_c 45 r
  have hx2 := hx_c 45 r
  have hvr : 0 ≤ valOf r ∧ valOf r < 1000000 := by
    simp only [digB, Bool.and_eq_true, decide_eq_true_eq] at hr
    have := valOf_range (fun b hb => List.all_eq_true.1 hr.2 b hb) r.length (Nat.le_refl _)
    rw [List.take_length] at this
    have h6 : 10 ^ r.length ≤ 10 ^ 6 := Nat.pow_le_pow_right (by omega) (by omega)
    omega
  have hv1 := hvr.1
  have hv2 := hvr.2
  clear hvr
  have hv := rvalue_c r hr w
  replace hv : Hid _ := hv
  replace hS : Hid _ := hS
  generalize valOf r = v at *
  clear hr
  go_enter Tryz.func13, Tryz.ntmps13
  go_wp2_with fail
  refine Calls.mono hv.out ?_
  rintro e w0 ⟨rfl, hb0⟩
  have h1 := hS.out w0 hb0
  replace h1 : Hid _ := h1
  clear hv hS
  go_wp2_with fail
  refine Calls.mono h1.out ?_
  rintro e w1 ⟨rfl, hk⟩
  replace hk : Hid _ := hk
  go_wp2
  go_ret
  exact ⟨rfl, hk.out⟩

set_option maxHeartbeats 4000000 in
set_option maxRecDepth 100000 in
theorem does_112o (tp : Value) (x : UInt8) (q : List UInt8) (h45 : x ≠ 45) (hr : digB (x :: q) = true) (hl : q.length < 600) (t : List UInt8) {K : World → Prop} {w : World}
    (hS : ∀ W, Below w.heap.size w W → Calls Tryz.prog 30 #[tp, .agg #[I 1, I (valOf (x :: q)), I 0]] W fun e w' => e = .returned (S t) ∧ K w') :
    Calls Tryz.prog 13 #[tp, S (112 :: x :: q)] w fun e w' => e = .returned (S t) ∧ K w' := by
  have hex : (⟨(112 :: x :: q).toArray⟩ : ByteArray).extract 1 (q.length + 1 + 1) = ⟨(x :: q).toArray⟩ := hex_c 112 (x :: q)
  have hx := hx_c 112 (x :: q)
  have hx2 := hx_c x q
  have b45 : ((x.toNat : Int) == 45) = false := by
    rw [beq_eq_false_iff_ne]
    intro e
    exact h45 (UInt8.toNat_inj.1 (by simp; omega))
  have hv := rvalue_c (x :: q) hr w
  replace hv : Hid _ := hv
  replace hS : Hid _ := hS
  generalize valOf (x :: q) = v at *
  generalize x.toNat = xn at *
  clear hr h45
  go_enter Tryz.func13, Tryz.ntmps13
  go_wp2_with fail
  refine Calls.mono hv.out ?_
  rintro e w0 ⟨rfl, hb0⟩
  have h1 := hS.out w0 hb0
  replace h1 : Hid _ := h1
  clear hv hS
  go_wp2_with fail
  refine Calls.mono h1.out ?_
  rintro e w1 ⟨rfl, hk⟩
  replace hk : Hid _ := hk
  go_wp2
  go_ret
  exact ⟨rfl, hk.out⟩

set_option maxHeartbeats 4000000 in
set_option maxRecDepth 100000 in
theorem does_108 (tp : Value) (t : List UInt8) {K : World → Prop} {w : World}
    (hS : ∀ W, Below w.heap.size w W → Calls Tryz.prog 35 #[tp] W fun e w' => e = .returned (S t) ∧ K w') :
    Calls Tryz.prog 13 #[tp, S [108]] w fun e w' => e = .returned (S t) ∧ K w' := by
  have hex := hex_c 108 []
  have hx := hx_c 108 []
  simp only [List.length_nil] at hex
  have h1 := hS w (Below.refl _ _)
  replace h1 : Hid _ := h1
  clear hS
  go_enter Tryz.func13, Tryz.ntmps13
  go_wp2_with fail
  refine Calls.mono h1.out ?_
  rintro e w1 ⟨rfl, hr⟩
  replace hr : Hid _ := hr
  go_wp2
  go_ret
  exact ⟨rfl, hr.out⟩

set_option maxHeartbeats 4000000 in
set_option maxRecDepth 100000 in
theorem does_113 (tp : Value) (r : List UInt8) (hr : digB r = true) (hl : r.length < 600) (p : Int × Int × Int) (er : Int) (j1 : I6 p.1) (j2 : I6 p.2.1) (j3 : I6 p.2.2) (j4 : I6 er) {w : World} (hT : Tab w)
    (hS : ∀ W, Below w.heap.size w W → Calls Tryz.prog 32 #[tp, I (valOf r)] W fun e w' => e = .returned (.tuple #[.agg #[I p.1, I p.2.1, I p.2.2], I er]) ∧ Below W.heap.size W w') :
    Calls Tryz.prog 13 #[tp, S (113 :: r)] w fun e w' => e = .returned (S (procT p er)) ∧ Below w.heap.size w w' := by
  have hex := hex_c 113 r
  have hx := hx_c 113 r
  have hv := rvalue_c r hr w
  replace hv : Hid _ := hv
  replace hS : Hid _ := hS
  generalize valOf r = v at *
  have HTab : Hid (Tab w) := hT
  obtain ⟨p1, p2, p3⟩ := p
  unfold procT
  dsimp only at j1 j2 j3 hS ⊢
  clear hr hT
  by_cases h0 : er = 0
  · rw [if_pos h0]
    subst h0
    have l1 := j1.len
    have l2 := j2.len
    have l3 := j3.len
    have HC1 : Hid (∀ w0 W, Hid (BoxAt w0 #[I p1, I p2, I p3] 82 W) → Calls Tryz.prog 34 #[.int .i64 p1] W fun e w' => e = .returned (S (Lib.itoa p1)) ∧ BoxAt w0 #[I p1, I p2, I p3] 82 w') := fun w0 W hW => hW.out.itoa p1 j1
    have HC2 : Hid (∀ w0 W, Hid (BoxAt w0 #[I p1, I p2, I p3] 82 W) → Calls Tryz.prog 34 #[.int .i64 p2] W fun e w' => e = .returned (S (Lib.itoa p2)) ∧ BoxAt w0 #[I p1, I p2, I p3] 82 w') := fun w0 W hW => hW.out.itoa p2 j2
    have HC3 : Hid (∀ w0 W, Hid (BoxAt w0 #[I p1, I p2, I p3] 82 W) → Calls Tryz.prog 34 #[.int .i64 p3] W fun e w' => e = .returned (S (Lib.itoa p3)) ∧ BoxAt w0 #[I p1, I p2, I p3] 82 w') := fun w0 W hW => hW.out.itoa p3 j3
    have hSA := S_app
    generalize Lib.itoa p1 = a1 at *
    generalize Lib.itoa p2 = a2 at *
    generalize Lib.itoa p3 = a3 at *
    have q1 : ¬ 9223372036854775807 < a1.length + 1 := by omega
    have q2 : ¬ 9223372036854775807 < a1.length + 1 + a2.length := by omega
    have q3 : ¬ 9223372036854775807 < a1.length + (a2.length + 1) + 1 := by omega
    have q4 : ¬ 9223372036854775807 < a1.length + (a2.length + 1 + 1) + a3.length := by omega
    clear j1 j2 j3 j4
    go_enter Tryz.func13, Tryz.ntmps13
    go_wp2_with fail
    refine Calls.mono hv.out ?_
    rintro e w0 ⟨rfl, hb0⟩
    have h1 := hS.out w0 hb0
    replace h1 : Hid _ := h1
    clear hv hS
    go_wp2_with fail
    refine Calls.mono h1.out ?_
    rintro e w1 ⟨rfl, hb1⟩
    have hb2 : Hid (Below w.heap.size w w1) := hb0.trans (hb1.mono hb0.size)
    have H0 : Hid (BoxAt w1 #[I p1, I p2, I p3] 82 (w1.alloc (.cells #[I p1, I p2, I p3] 82))) := BoxAt.new (HTab.out.below hb2.out) _ _
    have HS : Hid (∀ W, BoxAt w1 #[I p1, I p2, I p3] 82 W → (W.cell? ⟨w1.heap.size, 0, none⟩ = some (I p1) ∧ W.cell? ⟨w1.heap.size, 1, none⟩ = some (I p2) ∧ W.cell? ⟨w1.heap.size, 2, none⟩ = some (I p3)) ∧ Hid (BoxAt w1 #[I p1, I p2, I p3] 82 W)) := by
      intro W hW
      have f1 := (nb_facts hW.blk).1
      exact ⟨⟨f1 0, f1 1, f1 2⟩, hW⟩
    have HD1 : Hid _ := HC1.out w1
    have HD2 : Hid _ := HC2.out w1
    have HD3 : Hid _ := HC3.out w1
    clear h1 hb1 hb0 HC1 HC2 HC3
    go_wp2_with fail
    go_region_held3 (fun W => (W.cell? ⟨w1.heap.size, 0, none⟩ = some (I p1) ∧ W.cell? ⟨w1.heap.size, 1, none⟩ = some (I p2) ∧ W.cell? ⟨w1.heap.size, 2, none⟩ = some (I p3)) ∧ Hid (BoxAt w1 #[I p1, I p2, I p3] 82 W)) (first | exact HS.out _ H0.out.drew | exact HS.out _ (by assumption)) (first | (go_at_call_of 34 p1; refine (HD1.out _ (And.right (by assumption))).mono ?_; rintro e w' ⟨rfl, hbx⟩) | (go_at_call_of 34 p2; refine (HD2.out _ (And.right (by assumption))).mono ?_; rintro e w' ⟨rfl, hbx⟩) | (go_at_call_of 34 p3; refine (HD3.out _ (And.right (by assumption))).mono ?_; rintro e w' ⟨rfl, hbx⟩))
    go_wp2
    go_ret
    exact ⟨by simp, hb2.out.trans (hbx.below.mono hb2.out.size)⟩
  · rw [if_neg h0]
    have b0 : (er != 0) = true := by simpa using h0
    have h2 : Hid (∀ W, Tab W → Calls Tryz.prog 33 #[I 0, I er] W fun x w' => x = .returned (S (33 :: Lib.itoa er)) ∧ Below W.heap.size W w') := by
      intro W hW
      have := rsaid_c 0 er ⟨by omega, by omega⟩ j4 hW
      unfold numT at this
      rw [if_neg h0] at this
      exact this
    generalize (33 :: Lib.itoa er) = t at *
    clear j1 j2 j3 j4 h0
    go_enter Tryz.func13, Tryz.ntmps13
    go_wp2_with fail
    refine Calls.mono hv.out ?_
    rintro e w0 ⟨rfl, hb0⟩
    have h1 := hS.out w0 hb0
    replace h1 : Hid _ := h1
    clear hv hS
    go_wp2_with fail
    refine Calls.mono h1.out ?_
    rintro e w1 ⟨rfl, hb1⟩
    have hb2 : Below w.heap.size w w1 := hb0.trans (hb1.mono hb0.size)
    clear h1 hb1 hb0
    go_wp2_with fail
    have hb3 : Below w.heap.size w (w1.alloc (.cells #[I p1, I p2, I p3] 82)) := hb2.alloc hb2.size _
    refine Calls.mono (h2.out _ (HTab.out.below hb3)) ?_
    rintro e w2 ⟨rfl, hb⟩
    go_wp2
    go_ret
    exact ⟨rfl, hb3.trans (hb.mono hb3.size)⟩

set_option maxHeartbeats 4000000 in
set_option maxRecDepth 100000 in
theorem does_115 (tp : Value) (r : List UInt8) (hl : r.length < 600) (ha : digB (cutL 44 r).1 = true) (hb : digB (cutL 44 r).2.1 = true) (n er : Int) (hn : I6 n) (he : I6 er) {K : World → Prop} (hK : Keeps K) {w : World}
    (hS : ∀ W, Below w.heap.size w W → Calls Tryz.prog 36 #[tp, I (valOf (cutL 44 r).1), I (valOf (cutL 44 r).2.1)] W fun e w' => e = .returned (.tuple #[I n, I er]) ∧ K w') :
    Calls Tryz.prog 13 #[tp, S (115 :: r)] w fun e w' => e = .returned (S (numT n er)) ∧ K w' := by
  have hex := hex_c 115 r
  have hx := hx_c 115 r
  have hc := rcut_c r 44 (by omega) w
  replace hc : Hid _ := hc
  have HA : Hid (∀ W, Calls Tryz.prog 31 #[S (cutL 44 r).1] W fun e w' => e = .returned (I (valOf (cutL 44 r).1)) ∧ Below W.heap.size W w') := fun W => rvalue_c _ ha W
  have HB : Hid (∀ W, Calls Tryz.prog 31 #[S (cutL 44 r).2.1] W fun e w' => e = .returned (I (valOf (cutL 44 r).2.1)) ∧ Below W.heap.size W w') := fun W => rvalue_c _ hb W
  have h2 : Hid (∀ W, Tab W → Calls Tryz.prog 33 #[I n, I er] W fun x w' => x = .returned (S (numT n er)) ∧ Below W.heap.size W w') := fun W hW => rsaid_c _ _ hn he hW
  replace hS : Hid _ := hS
  generalize numT n er = t at *
  generalize valOf (cutL 44 r).1 = va at *
  generalize valOf (cutL 44 r).2.1 = vb at *
  generalize (cutL 44 r).1 = a at *
  generalize (cutL 44 r).2.1 = b at *
  generalize (cutL 44 r).2.2 = ok at *
  clear ha hb hn he
  go_enter Tryz.func13, Tryz.ntmps13
  go_wp2_with fail
  refine Calls.mono hc.out ?_
  rintro e w1 ⟨rfl, hb1⟩
  clear hc
  go_wp2_with fail
  refine Calls.mono (HA.out _) ?_
  rintro e w2 ⟨rfl, hb2⟩
  clear HA
  go_wp2_with fail
  refine Calls.mono (HB.out _) ?_
  rintro e w3 ⟨rfl, hb3⟩
  have hb4 := hb1.trans (hb2.mono hb1.size)
  have hb5 := hb4.trans (hb3.mono hb4.size)
  have h1 := hS.out w3 hb5
  replace h1 : Hid _ := h1
  clear HB hb1 hb2 hb3 hb4 hb5 hS
  go_wp2_with fail
  refine Calls.mono h1.out ?_
  rintro e w4 ⟨rfl, hr⟩
  have h3 := h2.out w4 (hK.tab _ hr)
  replace h3 : Hid _ := h3
  replace hr : Hid _ := hr
  clear h1 h2
  go_wp2_with fail
  refine Calls.mono h3.out ?_
  rintro e w5 ⟨rfl, hb⟩
  go_wp2
  go_ret
  exact ⟨rfl, hK.on _ _ hr.out hb⟩

set_option maxHeartbeats 4000000 in
set_option maxRecDepth 100000 in
theorem does_114 (tp : Value) (r : List UInt8) (hl : r.length < 600) (ha : digB (cutL 44 r).1 = true) (hb : digB (cutL 44 r).2.1 = true) (n er : Int) (hn : I6 n) (he : I6 er) {K : World → Prop} (hK : Keeps K) {w : World}
    (hS : ∀ W, Below w.heap.size w W → Calls Tryz.prog 37 #[tp, I (valOf (cutL 44 r).1), I (valOf (cutL 44 r).2.1)] W fun e w' => e = .returned (.tuple #[I n, I er]) ∧ K w') :
    Calls Tryz.prog 13 #[tp, S (114 :: r)] w fun e w' => e = .returned (S (numT n er)) ∧ K w' := by
  have hex := hex_c 114 r
  have hx := hx_c 114 r
  have hc := rcut_c r 44 (by omega) w
  replace hc : Hid _ := hc
  have HA : Hid (∀ W, Calls Tryz.prog 31 #[S (cutL 44 r).1] W fun e w' => e = .returned (I (valOf (cutL 44 r).1)) ∧ Below W.heap.size W w') := fun W => rvalue_c _ ha W
  have HB : Hid (∀ W, Calls Tryz.prog 31 #[S (cutL 44 r).2.1] W fun e w' => e = .returned (I (valOf (cutL 44 r).2.1)) ∧ Below W.heap.size W w') := fun W => rvalue_c _ hb W
  have h2 : Hid (∀ W, Tab W → Calls Tryz.prog 33 #[I n, I er] W fun x w' => x = .returned (S (numT n er)) ∧ Below W.heap.size W w') := fun W hW => rsaid_c _ _ hn he hW
  replace hS : Hid _ := hS
  generalize numT n er = t at *
  generalize valOf (cutL 44 r).1 = va at *
  generalize valOf (cutL 44 r).2.1 = vb at *
  generalize (cutL 44 r).1 = a at *
  generalize (cutL 44 r).2.1 = b at *
  generalize (cutL 44 r).2.2 = ok at *
  clear ha hb hn he
  go_enter Tryz.func13, Tryz.ntmps13
  go_wp2_with fail
  refine Calls.mono hc.out ?_
  rintro e w1 ⟨rfl, hb1⟩
  clear hc
  go_wp2_with fail
  refine Calls.mono (HA.out _) ?_
  rintro e w2 ⟨rfl, hb2⟩
  clear HA
  go_wp2_with fail
  refine Calls.mono (HB.out _) ?_
  rintro e w3 ⟨rfl, hb3⟩
  have hb4 := hb1.trans (hb2.mono hb1.size)
  have hb5 := hb4.trans (hb3.mono hb4.size)
  have h1 := hS.out w3 hb5
  replace h1 : Hid _ := h1
  clear HB hb1 hb2 hb3 hb4 hb5 hS
  go_wp2_with fail
  refine Calls.mono h1.out ?_
  rintro e w4 ⟨rfl, hr⟩
  have h3 := h2.out w4 (hK.tab _ hr)
  replace h3 : Hid _ := h3
  replace hr : Hid _ := hr
  clear h1 h2
  go_wp2_with fail
  refine Calls.mono h3.out ?_
  rintro e w5 ⟨rfl, hb⟩
  go_wp2
  go_ret
  exact ⟨rfl, hK.on _ _ hr.out hb⟩

end Go.Proofs.YtjnmpejcegmkhaaGreatDoor

namespace Go.Proofs.YtjnmpejcegmkhaaGreatDoor
open Go.RowKit

/-- What was there is there, and the table lies. -/
structure AtW (w W : World) : Prop where
  below : Below w.heap.size w W
  tab : Tab W
theorem AtW.go {w W W' : World} (h : AtW w W) (hb : Below W.heap.size W W') : AtW w W' := ⟨h.below.trans (hb.mono h.below.size), h.tab.below hb⟩
theorem AtW.itoa {w W : World} (h : AtW w W) (n : Int) (hn : I6 n) : Calls Tryz.prog 34 #[.int .i64 n] W fun e w' => e = .returned (S (Lib.itoa n)) ∧ AtW w w' := by
  refine (itoa_c n hn.1 hn.2 h.tab).mono ?_
  rintro e w' ⟨rfl, hb⟩
  exact ⟨rfl, h.go hb⟩

/-- What a tree of the document must be for its leaves to be told. -/
structure LvOk (L : Lay) : Prop where
  len : 1 ≤ L.past.length ∧ L.past.length ≤ 32
  form : ∀ v, 1 ≤ v → v < L.past.length → formH (L.hist v) = 1 ∨ formH (L.hist v) = 2 ∨ formH (L.hist v) = 3
  from' : ∀ v, v < L.past.length → 0 ≤ (fromH (L.hist v)).1.n ∧ putsH (L.hist v) ≤ 10000
  nb : ∀ d ∈ rnodes L, NdB d

theorem rnodes_mem (L : Lay) {v : Nat} (h1 : 1 ≤ v) (hv : v < L.past.length) (hf : formH (L.hist v) ≠ 3) : rnode L v ∈ rnodes L := by
  unfold rnodes rnodesTo
  refine List.mem_filterMap.2 ⟨v, by simpa using hv, ?_⟩
  rw [if_neg (by omega)]
theorem lvTo (L : Lay) (k : Nat) : (rnodesTo L (k + 1)).foldl lvS [] = if k = 0 ∨ formH (L.hist k) = 3 then (rnodesTo L k).foldl lvS [] else lvS ((rnodesTo L k).foldl lvS []) (rnode L k) := by
  rw [rnodesTo_succ, List.foldl_append]
  split <;> rfl

set_option maxHeartbeats 8000000 in
set_option maxRecDepth 100000 in
theorem rleaves_c {w : World} {B : Nat} {L : Lay} (h : RefRep w B L) (ho : LvOk L) (hT : Tab w) :
    Calls Tryz.prog 35 #[.pointer (some ⟨L.tb, 0, none⟩)] w fun e w' => e = .returned (S (leavesT (rnodes L))) ∧ Below w.heap.size w w' := by
  have HT : Hid (leavesT (rnodes L) = (rnodesTo L L.past.length).foldl lvS []) := rfl
  have H0 : Hid (AtW w w) := ⟨Below.refl _ _, hT⟩
  have HO : Hid (LvOk L) := ho
  have HF : Hid (∀ W v, AtW w W → v < L.past.length → Calls Tryz.prog 51 #[.pointer (some ⟨L.tb, 0, none⟩), I v] W fun e w' => e = .returned (I (formH (L.hist v))) ∧ w' = W) := fun W v hW hv => form_c (h.below hW.below) v hv
  have HPu : Hid (∀ W v, AtW w W → v < L.past.length → Calls Tryz.prog 52 #[.pointer (some ⟨L.tb, 0, none⟩), I v] W fun e w' => e = .returned (I (putsH (L.hist v))) ∧ AtW w w') := by
    intro W v hW hv
    have a := ho.from' v hv
    unfold putsH at a ⊢
    refine (puts_c (h.below hW.below) v hv a.1 (by omega) (by omega)).mono ?_
    rintro e w' ⟨rfl, hb⟩
    exact ⟨rfl, hW.go hb⟩
  have HGe : Hid (∀ W v, AtW w W → v < L.past.length → Calls Tryz.prog 53 #[.pointer (some ⟨L.tb, 0, none⟩), I v] W fun e w' => e = .returned (I (manyH 7 (-1) (L.hist v))) ∧ AtW w w') := by
    intro W v hW hv
    refine (gets_c (h.below hW.below) v hv).mono ?_
    rintro e w' ⟨rfl, rfl⟩
    exact ⟨rfl, hW⟩
  have HIt : Hid (∀ W v, AtW w W → v < L.past.length → Calls Tryz.prog 54 #[.pointer (some ⟨L.tb, 0, none⟩), I v] W fun e w' => ∃ x, e = .returned x ∧ w'.ownsRow W.heap.size 3 1 x (itemsH (L.hist v)).length ((itemsH (L.hist v)).map I) ∧ AtW w w') := by
    intro W v hW hv
    have a := ho.from' v hv
    refine (items_c (h.below hW.below) v hv a.1 (by omega)).mono ?_
    rintro e w' ⟨x, rfl, hx, hb⟩
    exact ⟨x, rfl, hx, hW.go hb⟩
  have hl := ho.len
  have hvc := h.hv_cell
  obtain ⟨hb', pcap, ep, pc1, pc2, _⟩ := h.past_at (v := 0) (by omega)
  rw [ep] at hvc
  have lvc := cell_lt hvc
  generalize leavesT (rnodes L) = R at *
  have hSA := S_app
  clear ho h hT ep
  unfold maxLen at pc2
  go_enter Tryz.func35, Tryz.ntmps35
  go_wp2_with fail
  go_loopw [3, 4, 5, 6, 7] (fun tt ii _ _ _ wr => ∃ (k : Nat) (t : List UInt8), 1 ≤ k ∧ k ≤ L.past.length ∧ tt = S t ∧ ii = I k ∧ Hid (t = (rnodesTo L k).foldl lvS []) ∧ t.length ≤ 300001 * k ∧ Hid (AtW w wr)) (fun _ ii _ _ _ _ => L.past.length - (intOf ii).toNat)
  case atStart => exact ⟨1, [], Nat.le_refl _, hl.1, rfl, rfl, rfl, by simp, H0⟩
  case round =>
    obtain ⟨k, t, hk1, hk, rfl, rfl, ht, htl, hbr⟩ := hrel
    have pv := (hbr.out.below.cell (p := ⟨L.tb, 9, none⟩) lvc).trans hvc
    by_cases hlt : k < L.past.length
    · have bl : decide ((k : Int) < (L.past.length : Int)) = true := by simp; omega
      have hfo := HO.out.form k hk1 hlt
      have hcf := HF.out wr k hbr.out hlt
      have HTK := lvTo L k
      rw [← ht.out] at HTK
      have HNB : Hid (formH (L.hist k) ≠ 3 → NdB (rnode L k)) := fun hf => HO.out.nb _ (rnodes_mem L hk1 hlt hf)
      have HRN : Hid (rnode L k = if formH (L.hist k) = 1 then ⟨k, Nat.log2 k, rank k, true, shutL k L.procs, insideL k L.procs, ((fromH (L.hist k)).1.n + manyH 4 (-1) (L.hist k)) % 2, widthH (L.hist k), waitTo k L.procs L.c.width.toNat, 0, 0, []⟩ else ⟨k, Nat.log2 k, rank k, false, shutL k L.procs, insideL k L.procs, 0, 0, [], putsH (L.hist k), manyH 7 (-1) (L.hist k), itemsH (L.hist k)⟩) := rfl
      replace hcf : Hid _ := hcf
      by_cases h2 : formH (L.hist k) = 2
      · rw [if_neg (by omega)] at HTK
        have hnb := HNB.out (by omega)
        have hrn := HRN.out
        rw [if_neg (by omega)] at hrn
        have hlv := lvS_len hnb t
        have e1 : (rnode L k).inner = false := by rw [hrn]
        unfold lvS at HTK hlv
        rw [e1, if_neg (by simp)] at HTK hlv
        have HLf : Hid (leafT (rnode L k) = (Lib.itoa k ++ 58 :: (Lib.itoa (putsH (L.hist k)) ++ 44 :: Lib.itoa (manyH 7 (-1) (L.hist k)))) ++ itemsT (itemsH (L.hist k))) := by
          show _ = _
          rw [hrn]
          rfl
        have n1 : InB (k : Int) := by have := hnb.num; rw [hrn] at this; exact this
        have n2 : InB (putsH (L.hist k)) := by have := hnb.puts; rw [hrn] at this; exact this
        have n3 : InB (manyH 7 (-1) (L.hist k)) := by have := hnb.gets; rw [hrn] at this; exact this
        have n4 : ∀ x ∈ itemsH (L.hist k), InB x := by have := hnb.items; rw [hrn] at this; exact this
        have hm : (itemsH (L.hist k)).length ≤ 10000 := by have := hnb.many; rw [hrn] at this; exact this
        have l1 := n1.len
        have l2 := n2.len
        have l3 := n3.len
        have HNI : Hid (∀ x ∈ itemsH (L.hist k), InB x) := n4
        have HC1 : Hid (∀ W, Hid (AtW w W) → Calls Tryz.prog 34 #[.int .i64 (k : Int)] W fun e w' => e = .returned (S (Lib.itoa k)) ∧ AtW w w') := fun W hW => hW.out.itoa _ n1.i6
        have HC2 : Hid (∀ W, Hid (AtW w W) → Calls Tryz.prog 34 #[.int .i64 (putsH (L.hist k))] W fun e w' => e = .returned (S (Lib.itoa (putsH (L.hist k)))) ∧ AtW w w') := fun W hW => hW.out.itoa _ n2.i6
        have HC3 : Hid (∀ W, Hid (AtW w W) → Calls Tryz.prog 34 #[.int .i64 (manyH 7 (-1) (L.hist k))] W fun e w' => e = .returned (S (Lib.itoa (manyH 7 (-1) (L.hist k)))) ∧ AtW w w') := fun W hW => hW.out.itoa _ n3.i6
        have HC4 : Hid (∀ W, Hid (AtW w W) → Calls Tryz.prog 52 #[.pointer (some ⟨L.tb, 0, none⟩), I k] W fun e w' => e = .returned (I (putsH (L.hist k))) ∧ AtW w w') := fun W hW => HPu.out W k hW.out hlt
        have HC5 : Hid (∀ W, Hid (AtW w W) → Calls Tryz.prog 53 #[.pointer (some ⟨L.tb, 0, none⟩), I k] W fun e w' => e = .returned (I (manyH 7 (-1) (L.hist k))) ∧ AtW w w') := fun W hW => HGe.out W k hW.out hlt
        have HC6 : Hid (∀ W, AtW w W → Calls Tryz.prog 54 #[.pointer (some ⟨L.tb, 0, none⟩), I k] W fun e w' => ∃ x, e = .returned x ∧ w'.ownsRow W.heap.size 3 1 x (itemsH (L.hist k)).length ((itemsH (L.hist k)).map I) ∧ AtW w w') := fun W hW => HIt.out W k hW hlt
        rw [h2] at hcf
        generalize leafT (rnode L k) = lt at *
        replace HTK : Hid _ := HTK
        clear hnb hrn n1 n2 n3 n4 HRN HNB h2 hfo
        generalize hpu : putsH (L.hist k) = pu at *
        generalize hge : ((manyH 7 (-1) (L.hist k) : Nat) : Int) = ge at *
        generalize itemsH (L.hist k) = its at *
        clear hpu hge
        generalize Lib.itoa (k : Int) = a1 at *
        generalize Lib.itoa pu = a2 at *
        generalize Lib.itoa ge = a3 at *
        generalize hu : (if t = [] then [] else t ++ [124]) = u at *
        have hul : u.length ≤ t.length + 1 := by
          rw [← hu]
          split <;> simp
        replace hu : Hid _ := hu
        go_wp2_with fail
        refine Calls.mono hcf.out ?_
        rintro e wf ⟨rfl, rfl⟩
        clear hcf
        obtain ⟨bE, bt⟩ : ∃ y, t.isEmpty = y := ⟨_, rfl⟩
        go_upto_if 23 with fail
        go_cut [3] (fun ss wx => ss = S u ∧ wx = wf)
        case first =>
          cases bE with
          | true =>
            have hte : t = [] := by simpa using bt
            have hu' := hu.out
            rw [if_pos hte] at hu'
            subst hte hu'
            clear hu
            go_wp2_with fail
            go_meet
            exact ⟨rfl, rfl⟩
          | false =>
            have hte : t ≠ [] := by simpa using bt
            have hu' := hu.out
            rw [if_neg hte] at hu'
            have q1 : ¬ 9223372036854775807 < t.length + 1 := by omega
            have HU : Hid (u = t ++ [124]) := hu'.symm
            clear hu' hu hte
            go_wp2_with fail
            go_meet
            exact ⟨by rw [HU.out], rfl⟩
        case rest =>
          obtain ⟨rfl, rfl⟩ := hcut
          have q0 : ¬ 9223372036854775807 < u.length + a1.length := by omega
          have q1 : ¬ 9223372036854775807 < u.length + a1.length + 1 := by omega
          have q1' : ¬ 9223372036854775807 < u.length + (a1.length + 1) := by omega
          have q2 : ¬ 9223372036854775807 < u.length + (a1.length + 1) + a2.length := by omega
          have q3 : ¬ 9223372036854775807 < u.length + (a1.length + (a2.length + 1)) + 1 := by omega
          have q4 : ¬ 9223372036854775807 < u.length + (a1.length + (a2.length + 1 + 1)) + a3.length := by omega
          go_wp2_with fail
          refine Calls.mono (HC1.out _ hbr) ?_
          rintro e y1 ⟨rfl, g1⟩
          go_wp2_with fail
          refine Calls.mono (HC4.out _ g1) ?_
          rintro e y2 ⟨rfl, g2⟩
          go_wp2_with fail
          refine Calls.mono (HC2.out _ g2) ?_
          rintro e y3 ⟨rfl, g3⟩
          go_wp2_with fail
          refine Calls.mono (HC5.out _ g3) ?_
          rintro e y4 ⟨rfl, g4⟩
          go_wp2_with fail
          refine Calls.mono (HC3.out _ g4) ?_
          rintro e y5 ⟨rfl, g5⟩
          go_wp2_with fail
          refine Calls.mono (HC6.out _ g5) ?_
          rintro e y6 ⟨x, rfl, hrow, g6⟩
          obtain ⟨ao2, cap2, rfl, m1, m2, m3, hints⟩ := ints_open hrow
          unfold maxLen at m2 m3
          have HIA : Hid (IntsAt y6 ao2 its) := hints
          have HX : Hid (AtW w y6) := g6
          have hh : a1.length + a2.length + a3.length ≤ 60 := by omega
          clear HC1 HC2 HC3 HC4 HC5 HC6 q0 q1 q1' q2 q3 q4 bt hrow hints g1 g2 g3 g4 g5 g6 pv
          go_wp2_with fail
          go_loopw [3, 7] (fun tt kk wi => ∃ (m : Nat) (v : List UInt8), m ≤ its.length ∧ tt = S v ∧ kk = I m ∧ Hid (v = u ++ ((a1 ++ 58 :: (a2 ++ 44 :: a3)) ++ itemsT (its.take m))) ∧ Hid (Below y6.heap.size y6 wi)) (fun _ kk _ => its.length - (intOf kk).toNat)
          case atStart => exact ⟨0, _, Nat.zero_le _, rfl, rfl, by show _ = _; simp [itemsT], Below.refl _ _⟩
          case round =>
            obtain ⟨m, v, hmk, rfl, rfl, hv, hbi⟩ := hrel
            have hvl : v.length ≤ u.length + 62 + 21 * m := by
              have h3 := itemsT_len (l := its.take m) fun x hx => HNI.out x (List.mem_of_mem_take hx)
              have h4 : (its.take m).length = m := by simp; omega
              rw [hv.out]
              simp only [List.length_append, List.length_cons]
              omega
            by_cases hlm : m < its.length
            · have bm : decide ((m : Int) < (its.length : Int)) = true := by simp; omega
              obtain ⟨g2, rfl, hc⟩ := (HIA.out.below hbi.out).at' m hlm
              have hin' := HNI.out its[m] (List.getElem_mem hlm)
              have li := hin'.len
              have hcall := itoa_c its[m] hin'.i6.1 hin'.i6.2 (HX.out.tab.below hbi.out)
              replace hcall : Hid _ := hcall
              have HTI : Hid (itemsT (its.take (m + 1)) = itemsT (its.take m) ++ 44 :: Lib.itoa its[m]) := itemsT_take its m hlm
              generalize Lib.itoa its[m] = a at *
              generalize its[m] = x at *
              have q1 : ¬ 9223372036854775807 < v.length + 1 := by omega
              have q2 : ¬ 9223372036854775807 < v.length + 1 + a.length := by omega
              clear hin'
              go_wp2_with fail
              refine Calls.mono hcall.out ?_
              rintro e w5 ⟨rfl, hb5⟩
              have hb6 : Hid (Below y6.heap.size y6 w5) := hbi.out.trans (hb5.mono hbi.out.size)
              clear hcall hbi hc hb5
              go_wp2
              refine ⟨⟨m + 1, _, by omega, rfl, rfl, ?_, hb6⟩, ?_⟩
              · show _ = _
                rw [HTI.out, hv.out]
                simp
              · show its.length - ((m : Int) + 1).toNat < its.length - (m : Int).toNat
                omega
            · have em : m = its.length := by omega
              have bm : decide ((m : Int) < (its.length : Int)) = false := by simp; omega
              have HV : Hid (v = u ++ lt) := by
                show _ = _
                rw [hv.out, HLf.out, em, List.take_length]
              go_wp2
              refine ⟨⟨k + 1, v, by omega, by omega, rfl, rfl, ?_, ?_, HX.out.go hbi.out⟩, ?_⟩
              · show _ = _
                rw [HV.out]
                exact HTK.out.symm
              · rw [HV.out]
                omega
              · show L.past.length - ((k : Int) + 1).toNat < L.past.length - (k : Int).toNat
                omega
      · have HS2 : Hid ((rnodesTo L (k + 1)).foldl lvS [] = t) := by
          show _ = _
          rw [HTK]
          rcases hfo with h1 | h1 | h1
          · rw [if_neg (by omega)]
            unfold lvS
            rw [HRN.out, if_pos h1, if_pos rfl]
          · exact absurd h1 h2
          · rw [if_pos (Or.inr h1)]
        have b2 : (formH (L.hist k) != 2) = true := by simpa using h2
        generalize formH (L.hist k) = f at *
        clear HTK HRN HNB h2 hfo
        go_wp2_with fail
        refine Calls.mono hcf.out ?_
        rintro e wf ⟨rfl, rfl⟩
        clear hcf
        go_wp2
        refine ⟨⟨k + 1, t, by omega, by omega, rfl, rfl, HS2.out.symm, by omega, hbr⟩, ?_⟩
        show L.past.length - ((k : Int) + 1).toNat < L.past.length - (k : Int).toNat
        omega
    · have ek : k = L.past.length := by omega
      have bl : decide ((k : Int) < (L.past.length : Int)) = false := by simp; omega
      have HFF : Hid (t = R) := by
        show _ = _
        rw [ht.out, HT.out, ek]
      go_wp2
      go_ret
      rw [← HFF.out]
      exact ⟨rfl, hbr.out.below⟩

end Go.Proofs.YtjnmpejcegmkhaaGreatDoor

namespace Go.Proofs.YtjnmpejcegmkhaaGreatDoor
open Go.RowKit

theorem rnode_same {L L' : Lay} (h : Same L L') (v : Nat) : rnode L' v = rnode L v := by
  unfold rnode
  have hw : waitTo v L'.procs L'.c.width.toNat = waitTo v L.procs L.c.width.toNat := by
    unfold waitTo
    rw [h.c]
    exact List.map_congr_left fun j _ => waits_same _ _ 0 h.procs
  rw [form_same (h.hist v), shut_same _ h.procs, inside_same v h.procs, from_same (h.hist v), many_same (h.hist v), width_same (h.hist v), hw, puts_same (h.hist v), many_same (h.hist v), items_same (h.hist v)]
theorem rnodes_same {L L' : Lay} (h : Same L L') : rnodes L' = rnodes L := by
  unfold rnodes rnodesTo
  rw [h.len]
  exact filterMap_range_congr _ _ _ fun v _ => by rw [form_same (h.hist v), rnode_same h v]
theorem phaseOf_same {L L' : Lay} (h : Same L L') (i : Nat) : phaseOf L' i = phaseOf L i := by
  obtain ⟨hl, hg⟩ := snds_at h.procs
  by_cases hi : i < L.procs.length
  · rw [phaseOf_eq L i hi, phaseOf_eq L' i (by omega), hg i hi (by omega)]
  · unfold phaseOf
    rw [List.getD_eq_getElem?_getD, List.getD_eq_getElem?_getD, List.getElem?_eq_none (by omega), List.getElem?_eq_none (by omega)]
theorem lrest_same {L L' : Lay} (h : Same L L') (m : Int) : ∀ r, Same (lrest L m r) (lrest L' m r)
  | 0 => h
  | r + 1 => by
    unfold lrest
    rw [(snds_at h.procs).1]
    exact lroundTo_same (lrest_same h m r) _ _
theorem Same.push {L L' : Lay} (h : Same L L') (p : Pr) (a b : Nat) (x y : Value) : Same { L with pv := x, procs := L.procs ++ [(a, p)] } { L' with pv := y, procs := L'.procs ++ [(b, p)] } := by
  refine ⟨h.c, ?_, h.len, h.hist, h.tot⟩
  have := h.procs
  simp only [snds, List.map_append] at this ⊢
  rw [this]
  rfl

abbrev RTy : List TypeId := [65, 107, 91, 69, 109]
/-- The document's tree tb, in memory, is Lp but for places. -/
structure RAt (B : Nat) (c : Conf) (tb : Nat) (Lp : Lay) (w : World) : Prop where
  mem : ∃ Lm, Lm.tb = tb ∧ Same Lp Lm ∧ RefRep w B Lm
  rel : ∃ P, CRel c Lp P
  vb : VB Lp
  hB : B ≤ w.heap.size
  tab : TabB B w
theorem RAt.below {B : Nat} {c : Conf} {tb : Nat} {Lp : Lay} {w w' : World} (h : RAt B c tb Lp w) (hb : Below w.heap.size w w') : RAt B c tb Lp w' := by
  obtain ⟨Lm, a, b, d⟩ := h.mem
  exact ⟨⟨Lm, a, b, d.below hb⟩, h.rel, h.vb, Nat.le_trans h.hB hb.size, h.tab.below hb⟩
/-- What goes on behind a call. -/
def RGo (B : Nat) (c : Conf) (tb : Nat) (Lp : Lay) (w : World) (w' : World) : Prop := RAt B c tb Lp w' ∧ ChgT B RTy w w'
theorem rgo_keeps (B : Nat) (c : Conf) (tb : Nat) (Lp : Lay) (w : World) : Keeps (RGo B c tb Lp w) :=
  ⟨fun _ _ h hb => ⟨h.1.below hb, h.2.trans (ChgT.of_below hb)⟩, fun _ h => h.1.tab.tab⟩
theorem RGo.before {B : Nat} {c : Conf} {tb : Nat} {Lp : Lay} {w W w' : World} (hb : Below w.heap.size w W) (h : RGo B c tb Lp W w') : RGo B c tb Lp w w' := ⟨h.1, (ChgT.of_below hb).trans h.2⟩
theorem RAt.same {B : Nat} {c : Conf} {tb : Nat} {Lp : Lay} {w w' : World} (h : RAt B c tb Lp w) (hb : Below w.heap.size w w') : RGo B c tb Lp w w' := ⟨h.below hb, ChgT.of_below hb⟩

theorem rtspawn_c {B : Nat} {c : Conf} {tb : Nat} {L : Lay} {w : World} (h : RAt B c tb L w) (o : Op3) (ho : InB o.val) :
    Calls Tryz.prog 49 #[.pointer (some ⟨tb, 0, none⟩), opV o] w fun e w' => e = .returned (.tuple #[I (spN c L o).1, I (spN c L o).2.1]) ∧ RGo B c tb (spN c L o).2.2 w w' := by
  obtain ⟨Lm, rfl, hs, hm⟩ := h.mem
  obtain ⟨P, hP⟩ := h.rel
  have hl := (snds_at hs.procs).1
  have hlv : liveL Lm.procs = liveL L.procs := live_same hs.procs
  have hc : Lm.c = c := by rw [hs.c]; exact hP.rel.cL
  have hcf := hP.rel.confs
  have np := hP.rel.np
  have full := hP.rel.full
  unfold spN
  by_cases h1 : okOp c o
  · have ok' : okOp Lm.c o := by rw [hc]; exact h1
    rw [if_neg (by simpa using h1)]
    by_cases h2 : 256 ≤ L.procs.length
    · rw [if_pos h2]
      refine (rspawn_err3 hm o ok' (by omega) (by rw [hc]; omega) (by rw [hc]; omega)).mono ?_
      rintro e w' ⟨rfl, hb⟩
      exact ⟨rfl, h.same hb⟩
    · rw [if_neg h2]
      by_cases h3 : c.procs ≤ (liveL L.procs : Int)
      · rw [if_pos h3]
        refine (rspawn_err4 hm o ok' (by omega) (by rw [hlv, hc]; omega) (by rw [hc]; omega) (by rw [hc]; omega)).mono ?_
        rintro e w' ⟨rfl, hb⟩
        exact ⟨rfl, h.same hb⟩
      · rw [if_neg h3]
        refine (rspawn_yes hm h.hB o ok' (by rw [hc]; omega) (by rw [hc]; omega) (by omega) (by rw [hlv, hc]; omega)).mono ?_
        rintro e w' ⟨rfl, ⟨nb, x, hr⟩, hch⟩
        refine ⟨by rw [hl], ⟨⟨{ Lm with pv := x, procs := Lm.procs ++ [(nb, newPr o)] }, rfl, hs.push (newPr o) 0 nb L.pv x, hr⟩, ⟨_, hP.push o h1 0 L.pv P.pv (by omega) (by omega)⟩, h.vb.push o ho, Nat.le_trans h.hB hch.size, h.tab.chg (hch.below h.hB)⟩, hch.mono (Nat.le_refl _) (by simp)⟩
  · rw [if_pos (by simpa using h1)]
    refine (rspawn_err2 hm o (by rw [hc]; exact h1) (by rw [hc]; omega) (by rw [hc]; omega)).mono ?_
    rintro e w' ⟨rfl, hb⟩
    exact ⟨rfl, h.same hb⟩

theorem rtstep_c {B : Nat} {c : Conf} {tb : Nat} {L : Lay} {w : World} (h : RAt B c tb L w) (p draw : Int) :
    Calls Tryz.prog 36 #[.pointer (some ⟨tb, 0, none⟩), I p, I draw] w fun e w' => e = .returned (.tuple #[I (stN L p draw).1, I (stN L p draw).2.1]) ∧ RGo B c tb (stN L p draw).2.2 w w' := by
  obtain ⟨Lm, rfl, hs, hm⟩ := h.mem
  obtain ⟨P, hP⟩ := h.rel
  obtain ⟨hl, hg⟩ := snds_at hs.procs
  unfold stN
  by_cases hin : 0 ≤ p ∧ p < L.procs.length
  · obtain ⟨i, rfl⟩ := Int.eq_ofNat_of_zero_le hin.1
    have hi : i < L.procs.length := by omega
    have hi' : i < Lm.procs.length := by omega
    have hgi := hg i hi hi'
    by_cases h20 : (L.procs[i]).2.phase = 20
    · rw [if_neg (by rintro ⟨_, _, x⟩; rw [Int.toNat_natCast, phaseOf_eq L i hi] at x; exact x h20)]
      have hpa : ProcAt w Lm i (Lm.procs[i]).1 (Lm.procs[i]).2 := by
        refine ⟨hi', ?_, ?_, ?_⟩
        · exact (hm.pblk i hi').1
        · simp [List.getD_eq_getElem?_getD, List.getElem?_eq_getElem hi']
        · simp [List.getD_eq_getElem?_getD, List.getElem?_eq_getElem hi']
      refine (rStep_done hm hpa (by rw [hgi]; exact h20) draw).mono ?_
      rintro e w' ⟨rfl, hb⟩
      exact ⟨rfl, h.same hb⟩
    · rw [if_pos ⟨hin.1, hin.2, by rw [Int.toNat_natCast, phaseOf_eq L i hi]; exact h20⟩, Int.toNat_natCast]
      have hPm := hP.same hs
      have hst := hPm.nextR (B := B) hi' (by rw [hgi]; exact h20) draw w hm h.hB
      refine hst.mono ?_
      rintro e w' ⟨rfl, ⟨L', ⟨e1, e2⟩, hr⟩, hch⟩
      have hsl := lstep_same hs i draw
      obtain ⟨_, _, _, P', hP'⟩ := hP.next (B := B) hi h20 draw
      refine ⟨?_, ⟨⟨L', e1, hsl.trans e2, hr⟩, ⟨P', hP'⟩, vb_step h.vb hP i draw, Nat.le_trans h.hB hch.size, h.tab.chg (hch.below h.hB)⟩, hch.mono (Nat.le_refl _) (by simp)⟩
      have := phaseOf_same hsl i
      unfold phaseOf at this ⊢
      rw [this]
  · rw [if_neg (fun x => hin ⟨x.1, x.2.1⟩)]
    refine (rStep_none hm p (by omega) draw).mono ?_
    rintro e w' ⟨rfl, hb⟩
    exact ⟨rfl, h.same hb⟩

theorem rtrest_c {B : Nat} {c : Conf} {tb : Nat} {L : Lay} {w : World} (h : RAt B c tb L w) (r draw : Int) :
    Calls Tryz.prog 37 #[.pointer (some ⟨tb, 0, none⟩), I r, I draw] w fun e w' => e = .returned (.tuple #[I (rsN L r draw).1, I (rsN L r draw).2.1]) ∧ RGo B c tb (rsN L r draw).2.2 w w' := by
  obtain ⟨Lm, rfl, hs, hm⟩ := h.mem
  obtain ⟨P, hP⟩ := h.rel
  unfold rsN
  by_cases hin : 0 ≤ r ∧ r ≤ 100
  · rw [if_pos hin]
    obtain ⟨k, rfl⟩ := Int.eq_ofNat_of_zero_le hin.1
    rw [Int.toNat_natCast]
    have hsr := lrest_same hs (draw % 12) k
    refine (rrest_ok (hP.same hs) hm h.hB k (by omega) draw).mono ?_
    rintro e w' ⟨rfl, ⟨L', e1, e2, hr⟩, hch⟩
    obtain ⟨v1, v2⟩ := vb_rest h.vb hP (draw % 12) k
    refine ⟨by rw [live_same hsr.procs], ⟨⟨L', e1, hsr.trans e2, hr⟩, v2, v1, Nat.le_trans h.hB hch.size, h.tab.chg (hch.below h.hB)⟩, hch.mono (Nat.le_refl _) (by simp)⟩
  · rw [if_neg hin]
    refine (rrest_err Lm.tb r draw (by omega)).mono ?_
    rintro e w' ⟨rfl, rfl⟩
    exact ⟨rfl, h.same (Below.refl _ _)⟩

theorem prN_same {L L' : Lay} (h : Same L L') (n : Int) : prN L' n = prN L n := by
  obtain ⟨hl, hg⟩ := snds_at h.procs
  unfold prN
  rw [hl]
  by_cases hn : 0 ≤ n ∧ n < L.procs.length
  · rw [if_pos hn, if_pos hn]
    have hi : n.toNat < L.procs.length := by omega
    simp only [List.getD_eq_getElem?_getD, List.getElem?_eq_getElem hi, List.getElem?_eq_getElem (by omega : n.toNat < L'.procs.length), Option.getD_some, hg n.toNat hi (by omega)]
  · rw [if_neg hn, if_neg hn]
theorem rtproc_c {B : Nat} {c : Conf} {tb : Nat} {L : Lay} {w : World} (h : RAt B c tb L w) (p : Int) :
    Calls Tryz.prog 32 #[.pointer (some ⟨tb, 0, none⟩), I p] w fun e w' => e = .returned (.tuple #[.agg #[I (prN L p).1.1, I (prN L p).1.2.1, I (prN L p).1.2.2], I (prN L p).2]) ∧ Below w.heap.size w w' := by
  obtain ⟨Lm, rfl, hs, hm⟩ := h.mem
  rw [← prN_same hs p, ← procV_prN]
  exact rproc_c hm p
theorem rtleaves_c {B : Nat} {c : Conf} {tb : Nat} {L : Lay} {w : World} (h : RAt B c tb L w) :
    Calls Tryz.prog 35 #[.pointer (some ⟨tb, 0, none⟩)] w fun e w' => e = .returned (S (leavesT (rnodes L))) ∧ Below w.heap.size w w' := by
  obtain ⟨Lm, rfl, hs, hm⟩ := h.mem
  obtain ⟨P, hP⟩ := h.rel
  rw [← rnodes_same hs]
  have hPm := hP.same hs
  refine rleaves_c hm ⟨⟨by have := hPm.rel.lenle; omega, hPm.rel.lenle.2⟩, fun v h1 hv => (hPm.rel.nodes v h1 hv).form, fun v hv => ⟨(hPm.rel.fn v hv).1, (hPm.rel.puts64 v).2.1⟩, ?_⟩ h.tab.tab
  rw [rnodes_same hs]
  exact (rnodes_ndb h.vb hP).1

/-- A part, done. -/
theorem rdoes_c {B : Nat} {c : Conf} {tb : Nat} {L : Lay} {w : World} (h : RAt B c tb L w) (p : List UInt8) (hp : rightB p = true) (hl : p.length ≤ 600) :
    Calls Tryz.prog 13 #[.pointer (some ⟨tb, 0, none⟩), S p] w fun e w' => e = .returned (S (ansOf c L (cmdR p)).1) ∧ RGo B c tb (ansOf c L (cmdR p)).2 w w' := by
  obtain ⟨P, hP⟩ := h.rel
  have bg : ∀ (o : Op3), InB o.val → ∀ W, Below w.heap.size w W → Calls Tryz.prog 30 #[.pointer (some ⟨tb, 0, none⟩), opV o] W fun e w' => e = .returned (S (numT (spN c L o).1 (spN c L o).2.1)) ∧ RGo B c tb (spN c L o).2.2 w w' := by
    intro o ho W hW
    obtain ⟨i1, i2⟩ := spN_in hP o
    exact rbegins_c _ o _ _ i1.i6 i2.i6 (rgo_keeps B c tb _ w) (fun W' hW' => (rtspawn_c (h.below (hW.trans (hW'.mono hW.size))) o ho).mono (by
      rintro e w' ⟨rfl, hr⟩
      exact ⟨rfl, hr.before (hW.trans (hW'.mono hW.size))⟩))
  have i0 : InB 0 := inbN (by omega) (by omega)
  have vr : ∀ s, digB s = true → 0 ≤ valOf s ∧ valOf s < 1000000 := by
    intro s hs
    simp only [digB, Bool.and_eq_true, decide_eq_true_eq] at hs
    have := valOf_range (fun b hb => List.all_eq_true.1 hs.2 b hb) s.length (Nat.le_refl _)
    rw [List.take_length] at this
    have h6 : 10 ^ s.length ≤ 10 ^ 6 := Nat.pow_le_pow_right (by omega) (by omega)
    omega
  cases p with
  | nil => simp [rightB] at hp
  | cons ch r =>
    have hrl : r.length < 600 := by simp at hl; omega
    simp only [rightB] at hp
    by_cases h1 : ch = 105 ∨ ch = 103 ∨ ch = 108
    · rw [if_pos h1] at hp
      have hr : r = [] := by simpa using hp
      subst hr
      rcases h1 with rfl | rfl | rfl
      · exact does_105 _ _ (bg ⟨0, 0, 0⟩ i0)
      · exact does_103 _ _ (bg ⟨2, 0, 0⟩ i0)
      · exact does_108 _ _ (fun W hW => (rtleaves_c (h.below hW)).mono (by
          rintro e w' ⟨rfl, hb⟩
          exact ⟨rfl, h.same (hW.trans (hb.mono hW.size))⟩))
    rw [if_neg h1] at hp
    by_cases h2 : ch = 112
    · rw [if_pos h2] at hp
      subst h2
      cases r with
      | nil => simp [restP, digB] at hp
      | cons x q =>
        have hq : q.length < 600 := by simp at hrl; omega
        by_cases h45 : x = 45
        · subst h45
          have hd : digB q = true := hp
          have := vr q hd
          exact does_112m _ q hd hq _ (bg ⟨1, -(valOf q), 0⟩ ⟨by dsimp only; omega, by dsimp only; omega⟩)
        · have e : restP (x :: q) = x :: q := by
            unfold restP
            rw [if_neg (by simpa using h45)]
          rw [e] at hp
          have := vr _ hp
          have ec : cmdR (112 :: x :: q) = ⟨112, valOf (x :: q), 0⟩ := by
            simp only [cmdR]
            rw [if_neg (by decide), if_pos trivial, if_neg (by simpa using h45)]
          rw [ec]
          exact does_112o _ x q h45 hp hq _ (bg ⟨1, valOf (x :: q), 0⟩ ⟨by dsimp only; omega, by dsimp only; omega⟩)
    rw [if_neg h2] at hp
    by_cases h3 : ch = 102 ∨ ch = 117 ∨ ch = 113
    · rw [if_pos h3] at hp
      rcases h3 with rfl | rfl | rfl
      · exact does_102 _ r hp hrl _ (bg ⟨3, 0, valOf r⟩ i0)
      · exact does_117 _ r hp hrl _ (bg ⟨4, 0, valOf r⟩ i0)
      · obtain ⟨j1, j2, j3, j4⟩ := prN_in h.vb hP (valOf r)
        refine (does_113 _ r hp hrl (prN L (valOf r)).1 (prN L (valOf r)).2 j1.i6 j2.i6 j3.i6 j4.i6 h.tab.tab (fun W hW => rtproc_c (h.below hW) _)).mono ?_
        rintro e w' ⟨rfl, hb⟩
        exact ⟨rfl, h.same hb⟩
    rw [if_neg h3] at hp
    by_cases h4 : ch = 115 ∨ ch = 114
    · rw [if_pos h4] at hp
      simp only [Bool.and_eq_true] at hp
      obtain ⟨⟨_, ha⟩, hb⟩ := hp
      rcases h4 with rfl | rfl
      · obtain ⟨i1, i2⟩ := stN_in hP (valOf (cutL 44 r).1) (valOf (cutL 44 r).2.1)
        exact does_115 _ r hrl ha hb _ _ i1.i6 i2.i6 (rgo_keeps B c tb _ w) (fun W hW => (rtstep_c (h.below hW) _ _).mono (by
          rintro e w' ⟨rfl, hr⟩
          exact ⟨rfl, hr.before hW⟩))
      · obtain ⟨i1, i2⟩ := rsN_in hP (valOf (cutL 44 r).1) (valOf (cutL 44 r).2.1)
        exact does_114 _ r hrl ha hb _ _ i1.i6 i2.i6 (rgo_keeps B c tb _ w) (fun W hW => (rtrest_c (h.below hW) _ _).mono (by
          rintro e w' ⟨rfl, hr⟩
          exact ⟨rfl, hr.before hW⟩))
    rw [if_neg h4] at hp
    simp at hp

end Go.Proofs.YtjnmpejcegmkhaaGreatDoor

namespace Go.Proofs.YtjnmpejcegmkhaaGreatDoor
open Go.RowKit

set_option maxHeartbeats 4000000 in
theorem playSpawn_c {w : World} {B : Nat} {c : Conf} {L : Lay} {P : PLay} (h : TSt w B c L P) (o : Op3) (ho : InB o.val) :
    Calls Tryz.prog 21 #[.pointer (some ⟨P.tb, 0, none⟩), opV o] w fun e w' => e = .returned (S (numT (spN c L o).1 (spN c L o).2.1)) ∧ TRet B c P (spN c L o).2.2 w w' := by
  have h1 := fun W (hW : Below w.heap.size w W) => tspawn_c (h.below hW) o ho
  obtain ⟨i1, i2⟩ := spN_in h.rel o
  have h2 : Hid (∀ W, Tab W → Calls Tryz.prog 23 #[I (spN c L o).1, I (spN c L o).2.1] W fun x w' => x = .returned (S (numT (spN c L o).1 (spN c L o).2.1)) ∧ Below W.heap.size W w') := fun W hW => numberText_c _ _ i1.i6 i2.i6 hW
  replace h1 : Hid _ := h1
  have HL : Hid (∃ L', L' = (spN c L o).2.2) := ⟨_, rfl⟩
  obtain ⟨L', hL'⟩ := HL.out
  rw [← hL'] at h1 ⊢
  generalize numT (spN c L o).1 (spN c L o).2.1 = t at *
  generalize (spN c L o).1 = n at *
  generalize (spN c L o).2.1 = er at *
  clear hL' HL i1 i2 ho
  unfold opV at h1 ⊢
  have hB0 : Hid (Below w.heap.size w (w.alloc (.cells #[I o.kind, I o.val, I o.node] 77))) := (Below.refl _ _).alloc (Nat.le_refl _) _
  clear h
  go_enter Tryz.func21, Tryz.ntmps21
  go_wp2_with fail
  refine Calls.mono (h1.out _ hB0.out) ?_
  rintro e w1 ⟨rfl, hr⟩
  have h3 := h2.out w1 hr.tab
  replace h3 : Hid _ := h3
  replace hr : Hid _ := hr
  clear h1 h2
  go_wp2_with fail
  refine Calls.mono h3.out ?_
  rintro e w2 ⟨rfl, hb⟩
  go_wp2
  go_ret
  exact ⟨rfl, (TRet.before hB0.out hr.out).then hb⟩

set_option maxHeartbeats 4000000 in
theorem play_105 {w : World} {B : Nat} {c : Conf} {L : Lay} {P : PLay} (h : TSt w B c L P) (a b : Int) :
    Calls Tryz.prog 10 #[.pointer (some ⟨P.tb, 0, none⟩), .agg #[.int .u8 105, I a, I b]] w fun e w' => e = .returned (S (ansOf c L ⟨105, a, b⟩).1) ∧ TRet B c P (ansOf c L ⟨105, a, b⟩).2 w w' := by
  have e : ansOf c L ⟨105, a, b⟩ = (numT (spN c L (⟨0, 0, 0⟩ : Op3)).1 (spN c L (⟨0, 0, 0⟩ : Op3)).2.1, (spN c L (⟨0, 0, 0⟩ : Op3)).2.2) := rfl
  have h1 : Hid (∀ W, Below w.heap.size w W → Calls Tryz.prog 21 #[.pointer (some ⟨P.tb, 0, none⟩), .agg #[I (Op3.kind (⟨0, 0, 0⟩ : Op3)), I (Op3.val (⟨0, 0, 0⟩ : Op3)), I (Op3.node (⟨0, 0, 0⟩ : Op3))]] W fun e w' => e = .returned (S (numT (spN c L (⟨0, 0, 0⟩ : Op3)).1 (spN c L (⟨0, 0, 0⟩ : Op3)).2.1)) ∧ TRet B c P (spN c L (⟨0, 0, 0⟩ : Op3)).2.2 W w') := fun W hW => playSpawn_c (h.below hW) (⟨0, 0, 0⟩ : Op3) (inbN (k := 0) (by omega) (by omega))
  rw [e]
  dsimp only at h1 ⊢
  obtain ⟨L', hL'⟩ : ∃ L', L' = (spN c L (⟨0, 0, 0⟩ : Op3)).2.2 := ⟨_, rfl⟩
  rw [← hL'] at h1 ⊢
  generalize numT (spN c L (⟨0, 0, 0⟩ : Op3)).1 (spN c L (⟨0, 0, 0⟩ : Op3)).2.1 = t at *
  have hB0 : Hid (Below w.heap.size w (w.alloc (.cells #[.int .u8 105, I a, I b] 46))) := (Below.refl _ _).alloc (Nat.le_refl _) _
  obtain ⟨f1, _⟩ := nb_facts (nb_alloc w #[.int .u8 105, I a, I b] 46)
  have c0 := f1 0
  have c1 := f1 1
  simp at c0 c1
  clear h hL' e f1
  go_enter Tryz.func10, Tryz.ntmps10
  go_wp2_with fail
  refine Calls.mono (h1.out _ hB0.out) ?_
  rintro e w1 ⟨rfl, hr⟩
  replace hr : Hid _ := hr
  go_wp2
  go_ret
  exact ⟨rfl, TRet.before hB0.out hr.out⟩

set_option maxHeartbeats 4000000 in
theorem play_103 {w : World} {B : Nat} {c : Conf} {L : Lay} {P : PLay} (h : TSt w B c L P) (a b : Int) :
    Calls Tryz.prog 10 #[.pointer (some ⟨P.tb, 0, none⟩), .agg #[.int .u8 103, I a, I b]] w fun e w' => e = .returned (S (ansOf c L ⟨103, a, b⟩).1) ∧ TRet B c P (ansOf c L ⟨103, a, b⟩).2 w w' := by
  have e : ansOf c L ⟨103, a, b⟩ = (numT (spN c L (⟨2, 0, 0⟩ : Op3)).1 (spN c L (⟨2, 0, 0⟩ : Op3)).2.1, (spN c L (⟨2, 0, 0⟩ : Op3)).2.2) := rfl
  have h1 : Hid (∀ W, Below w.heap.size w W → Calls Tryz.prog 21 #[.pointer (some ⟨P.tb, 0, none⟩), .agg #[I (Op3.kind (⟨2, 0, 0⟩ : Op3)), I (Op3.val (⟨2, 0, 0⟩ : Op3)), I (Op3.node (⟨2, 0, 0⟩ : Op3))]] W fun e w' => e = .returned (S (numT (spN c L (⟨2, 0, 0⟩ : Op3)).1 (spN c L (⟨2, 0, 0⟩ : Op3)).2.1)) ∧ TRet B c P (spN c L (⟨2, 0, 0⟩ : Op3)).2.2 W w') := fun W hW => playSpawn_c (h.below hW) (⟨2, 0, 0⟩ : Op3) (inbN (k := 0) (by omega) (by omega))
  rw [e]
  dsimp only at h1 ⊢
  obtain ⟨L', hL'⟩ : ∃ L', L' = (spN c L (⟨2, 0, 0⟩ : Op3)).2.2 := ⟨_, rfl⟩
  rw [← hL'] at h1 ⊢
  generalize numT (spN c L (⟨2, 0, 0⟩ : Op3)).1 (spN c L (⟨2, 0, 0⟩ : Op3)).2.1 = t at *
  have hB0 : Hid (Below w.heap.size w (w.alloc (.cells #[.int .u8 103, I a, I b] 46))) := (Below.refl _ _).alloc (Nat.le_refl _) _
  obtain ⟨f1, _⟩ := nb_facts (nb_alloc w #[.int .u8 103, I a, I b] 46)
  have c0 := f1 0
  have c1 := f1 1
  simp at c0 c1
  clear h hL' e f1
  go_enter Tryz.func10, Tryz.ntmps10
  go_wp2_with fail
  refine Calls.mono (h1.out _ hB0.out) ?_
  rintro e w1 ⟨rfl, hr⟩
  replace hr : Hid _ := hr
  go_wp2
  go_ret
  exact ⟨rfl, TRet.before hB0.out hr.out⟩

set_option maxHeartbeats 4000000 in
theorem play_112 {w : World} {B : Nat} {c : Conf} {L : Lay} {P : PLay} (h : TSt w B c L P) (a b : Int) (ha : InB a) :
    Calls Tryz.prog 10 #[.pointer (some ⟨P.tb, 0, none⟩), .agg #[.int .u8 112, I a, I b]] w fun e w' => e = .returned (S (ansOf c L ⟨112, a, b⟩).1) ∧ TRet B c P (ansOf c L ⟨112, a, b⟩).2 w w' := by
  have e : ansOf c L ⟨112, a, b⟩ = (numT (spN c L (⟨1, a, 0⟩ : Op3)).1 (spN c L (⟨1, a, 0⟩ : Op3)).2.1, (spN c L (⟨1, a, 0⟩ : Op3)).2.2) := rfl
  have h1 : Hid (∀ W, Below w.heap.size w W → Calls Tryz.prog 21 #[.pointer (some ⟨P.tb, 0, none⟩), .agg #[I (Op3.kind (⟨1, a, 0⟩ : Op3)), I (Op3.val (⟨1, a, 0⟩ : Op3)), I (Op3.node (⟨1, a, 0⟩ : Op3))]] W fun e w' => e = .returned (S (numT (spN c L (⟨1, a, 0⟩ : Op3)).1 (spN c L (⟨1, a, 0⟩ : Op3)).2.1)) ∧ TRet B c P (spN c L (⟨1, a, 0⟩ : Op3)).2.2 W w') := fun W hW => playSpawn_c (h.below hW) (⟨1, a, 0⟩ : Op3) ha
  rw [e]
  dsimp only at h1 ⊢
  obtain ⟨L', hL'⟩ : ∃ L', L' = (spN c L (⟨1, a, 0⟩ : Op3)).2.2 := ⟨_, rfl⟩
  rw [← hL'] at h1 ⊢
  generalize numT (spN c L (⟨1, a, 0⟩ : Op3)).1 (spN c L (⟨1, a, 0⟩ : Op3)).2.1 = t at *
  have hB0 : Hid (Below w.heap.size w (w.alloc (.cells #[.int .u8 112, I a, I b] 46))) := (Below.refl _ _).alloc (Nat.le_refl _) _
  obtain ⟨f1, _⟩ := nb_facts (nb_alloc w #[.int .u8 112, I a, I b] 46)
  have c0 := f1 0
  have c1 := f1 1
  simp at c0 c1
  clear h hL' e f1
  go_enter Tryz.func10, Tryz.ntmps10
  go_wp2_with fail
  refine Calls.mono (h1.out _ hB0.out) ?_
  rintro e w1 ⟨rfl, hr⟩
  replace hr : Hid _ := hr
  go_wp2
  go_ret
  exact ⟨rfl, TRet.before hB0.out hr.out⟩

set_option maxHeartbeats 4000000 in
theorem play_102 {w : World} {B : Nat} {c : Conf} {L : Lay} {P : PLay} (h : TSt w B c L P) (a b : Int) :
    Calls Tryz.prog 10 #[.pointer (some ⟨P.tb, 0, none⟩), .agg #[.int .u8 102, I a, I b]] w fun e w' => e = .returned (S (ansOf c L ⟨102, a, b⟩).1) ∧ TRet B c P (ansOf c L ⟨102, a, b⟩).2 w w' := by
  have e : ansOf c L ⟨102, a, b⟩ = (numT (spN c L (⟨3, 0, a⟩ : Op3)).1 (spN c L (⟨3, 0, a⟩ : Op3)).2.1, (spN c L (⟨3, 0, a⟩ : Op3)).2.2) := rfl
  have h1 : Hid (∀ W, Below w.heap.size w W → Calls Tryz.prog 21 #[.pointer (some ⟨P.tb, 0, none⟩), .agg #[I (Op3.kind (⟨3, 0, a⟩ : Op3)), I (Op3.val (⟨3, 0, a⟩ : Op3)), I (Op3.node (⟨3, 0, a⟩ : Op3))]] W fun e w' => e = .returned (S (numT (spN c L (⟨3, 0, a⟩ : Op3)).1 (spN c L (⟨3, 0, a⟩ : Op3)).2.1)) ∧ TRet B c P (spN c L (⟨3, 0, a⟩ : Op3)).2.2 W w') := fun W hW => playSpawn_c (h.below hW) (⟨3, 0, a⟩ : Op3) (inbN (k := 0) (by omega) (by omega))
  rw [e]
  dsimp only at h1 ⊢
  obtain ⟨L', hL'⟩ : ∃ L', L' = (spN c L (⟨3, 0, a⟩ : Op3)).2.2 := ⟨_, rfl⟩
  rw [← hL'] at h1 ⊢
  generalize numT (spN c L (⟨3, 0, a⟩ : Op3)).1 (spN c L (⟨3, 0, a⟩ : Op3)).2.1 = t at *
  have hB0 : Hid (Below w.heap.size w (w.alloc (.cells #[.int .u8 102, I a, I b] 46))) := (Below.refl _ _).alloc (Nat.le_refl _) _
  obtain ⟨f1, _⟩ := nb_facts (nb_alloc w #[.int .u8 102, I a, I b] 46)
  have c0 := f1 0
  have c1 := f1 1
  simp at c0 c1
  clear h hL' e f1
  go_enter Tryz.func10, Tryz.ntmps10
  go_wp2_with fail
  refine Calls.mono (h1.out _ hB0.out) ?_
  rintro e w1 ⟨rfl, hr⟩
  replace hr : Hid _ := hr
  go_wp2
  go_ret
  exact ⟨rfl, TRet.before hB0.out hr.out⟩

set_option maxHeartbeats 4000000 in
theorem play_117 {w : World} {B : Nat} {c : Conf} {L : Lay} {P : PLay} (h : TSt w B c L P) (a b : Int) :
    Calls Tryz.prog 10 #[.pointer (some ⟨P.tb, 0, none⟩), .agg #[.int .u8 117, I a, I b]] w fun e w' => e = .returned (S (ansOf c L ⟨117, a, b⟩).1) ∧ TRet B c P (ansOf c L ⟨117, a, b⟩).2 w w' := by
  have e : ansOf c L ⟨117, a, b⟩ = (numT (spN c L (⟨4, 0, a⟩ : Op3)).1 (spN c L (⟨4, 0, a⟩ : Op3)).2.1, (spN c L (⟨4, 0, a⟩ : Op3)).2.2) := rfl
  have h1 : Hid (∀ W, Below w.heap.size w W → Calls Tryz.prog 21 #[.pointer (some ⟨P.tb, 0, none⟩), .agg #[I (Op3.kind (⟨4, 0, a⟩ : Op3)), I (Op3.val (⟨4, 0, a⟩ : Op3)), I (Op3.node (⟨4, 0, a⟩ : Op3))]] W fun e w' => e = .returned (S (numT (spN c L (⟨4, 0, a⟩ : Op3)).1 (spN c L (⟨4, 0, a⟩ : Op3)).2.1)) ∧ TRet B c P (spN c L (⟨4, 0, a⟩ : Op3)).2.2 W w') := fun W hW => playSpawn_c (h.below hW) (⟨4, 0, a⟩ : Op3) (inbN (k := 0) (by omega) (by omega))
  rw [e]
  dsimp only at h1 ⊢
  obtain ⟨L', hL'⟩ : ∃ L', L' = (spN c L (⟨4, 0, a⟩ : Op3)).2.2 := ⟨_, rfl⟩
  rw [← hL'] at h1 ⊢
  generalize numT (spN c L (⟨4, 0, a⟩ : Op3)).1 (spN c L (⟨4, 0, a⟩ : Op3)).2.1 = t at *
  have hB0 : Hid (Below w.heap.size w (w.alloc (.cells #[.int .u8 117, I a, I b] 46))) := (Below.refl _ _).alloc (Nat.le_refl _) _
  obtain ⟨f1, _⟩ := nb_facts (nb_alloc w #[.int .u8 117, I a, I b] 46)
  have c0 := f1 0
  have c1 := f1 1
  simp at c0 c1
  clear h hL' e f1
  go_enter Tryz.func10, Tryz.ntmps10
  go_wp2_with fail
  refine Calls.mono (h1.out _ hB0.out) ?_
  rintro e w1 ⟨rfl, hr⟩
  replace hr : Hid _ := hr
  go_wp2
  go_ret
  exact ⟨rfl, TRet.before hB0.out hr.out⟩

set_option maxHeartbeats 4000000 in
theorem play_115 {w : World} {B : Nat} {c : Conf} {L : Lay} {P : PLay} (h : TSt w B c L P) (a b : Int) :
    Calls Tryz.prog 10 #[.pointer (some ⟨P.tb, 0, none⟩), .agg #[.int .u8 115, I a, I b]] w fun e w' => e = .returned (S (ansOf c L ⟨115, a, b⟩).1) ∧ TRet B c P (ansOf c L ⟨115, a, b⟩).2 w w' := by
  have e : ansOf c L ⟨115, a, b⟩ = (numT (stN L a b).1 (stN L a b).2.1, (stN L a b).2.2) := rfl
  have h1 : Hid (∀ W, Below w.heap.size w W → Calls Tryz.prog 22 #[.pointer (some ⟨P.tb, 0, none⟩), I a, I b] W fun e w' => e = .returned (.tuple #[I (stN L a b).1, I (stN L a b).2.1]) ∧ TRet B c P (stN L a b).2.2 W w') := fun W hW => tstep_c (h.below hW) a b
  obtain ⟨i1, i2⟩ := stN_in h.rel a b
  have h2 : Hid (∀ W, Tab W → Calls Tryz.prog 23 #[I (stN L a b).1, I (stN L a b).2.1] W fun x w' => x = .returned (S (numT (stN L a b).1 (stN L a b).2.1)) ∧ Below W.heap.size W w') := fun W hW => numberText_c _ _ i1.i6 i2.i6 hW
  rw [e]
  dsimp only
  obtain ⟨L', hL'⟩ : ∃ L', L' = (stN L a b).2.2 := ⟨_, rfl⟩
  rw [← hL'] at h1 ⊢
  generalize numT (stN L a b).1 (stN L a b).2.1 = t at *
  generalize (stN L a b).1 = n at *
  generalize (stN L a b).2.1 = er at *
  have hB0 : Hid (Below w.heap.size w (w.alloc (.cells #[.int .u8 115, I a, I b] 46))) := (Below.refl _ _).alloc (Nat.le_refl _) _
  obtain ⟨f1, _⟩ := nb_facts (nb_alloc w #[.int .u8 115, I a, I b] 46)
  have c0 := f1 0
  have c1 := f1 1
  have c2 := f1 2
  simp at c0 c1 c2
  clear h hL' e f1 i1 i2
  go_enter Tryz.func10, Tryz.ntmps10
  go_wp2_with fail
  refine Calls.mono (h1.out _ hB0.out) ?_
  rintro e w1 ⟨rfl, hr⟩
  have h3 := h2.out w1 hr.tab
  replace h3 : Hid _ := h3
  replace hr : Hid _ := hr
  clear h1 h2
  go_wp2_with fail
  refine Calls.mono h3.out ?_
  rintro e w2 ⟨rfl, hb⟩
  go_wp2
  go_ret
  exact ⟨rfl, (TRet.before hB0.out hr.out).then hb⟩

set_option maxHeartbeats 4000000 in
theorem play_114 {w : World} {B : Nat} {c : Conf} {L : Lay} {P : PLay} (h : TSt w B c L P) (a b : Int) :
    Calls Tryz.prog 10 #[.pointer (some ⟨P.tb, 0, none⟩), .agg #[.int .u8 114, I a, I b]] w fun e w' => e = .returned (S (ansOf c L ⟨114, a, b⟩).1) ∧ TRet B c P (ansOf c L ⟨114, a, b⟩).2 w w' := by
  have e : ansOf c L ⟨114, a, b⟩ = (numT (rsN L a b).1 (rsN L a b).2.1, (rsN L a b).2.2) := rfl
  have h1 : Hid (∀ W, Below w.heap.size w W → Calls Tryz.prog 24 #[.pointer (some ⟨P.tb, 0, none⟩), I a, I b] W fun e w' => e = .returned (.tuple #[I (rsN L a b).1, I (rsN L a b).2.1]) ∧ TRet B c P (rsN L a b).2.2 W w') := fun W hW => trest_c (h.below hW) a b
  obtain ⟨i1, i2⟩ := rsN_in h.rel a b
  have h2 : Hid (∀ W, Tab W → Calls Tryz.prog 23 #[I (rsN L a b).1, I (rsN L a b).2.1] W fun x w' => x = .returned (S (numT (rsN L a b).1 (rsN L a b).2.1)) ∧ Below W.heap.size W w') := fun W hW => numberText_c _ _ i1.i6 i2.i6 hW
  rw [e]
  dsimp only
  obtain ⟨L', hL'⟩ : ∃ L', L' = (rsN L a b).2.2 := ⟨_, rfl⟩
  rw [← hL'] at h1 ⊢
  generalize numT (rsN L a b).1 (rsN L a b).2.1 = t at *
  generalize (rsN L a b).1 = n at *
  generalize (rsN L a b).2.1 = er at *
  have hB0 : Hid (Below w.heap.size w (w.alloc (.cells #[.int .u8 114, I a, I b] 46))) := (Below.refl _ _).alloc (Nat.le_refl _) _
  obtain ⟨f1, _⟩ := nb_facts (nb_alloc w #[.int .u8 114, I a, I b] 46)
  have c0 := f1 0
  have c1 := f1 1
  have c2 := f1 2
  simp at c0 c1 c2
  clear h hL' e f1 i1 i2
  go_enter Tryz.func10, Tryz.ntmps10
  go_wp2_with fail
  refine Calls.mono (h1.out _ hB0.out) ?_
  rintro e w1 ⟨rfl, hr⟩
  have h3 := h2.out w1 hr.tab
  replace h3 : Hid _ := h3
  replace hr : Hid _ := hr
  clear h1 h2
  go_wp2_with fail
  refine Calls.mono h3.out ?_
  rintro e w2 ⟨rfl, hb⟩
  go_wp2
  go_ret
  exact ⟨rfl, (TRet.before hB0.out hr.out).then hb⟩

set_option maxHeartbeats 4000000 in
theorem play_113 {w : World} {B : Nat} {c : Conf} {L : Lay} {P : PLay} (h : TSt w B c L P) (a b : Int) :
    Calls Tryz.prog 10 #[.pointer (some ⟨P.tb, 0, none⟩), .agg #[.int .u8 113, I a, I b]] w fun e w' => e = .returned (S (ansOf c L ⟨113, a, b⟩).1) ∧ TRet B c P (ansOf c L ⟨113, a, b⟩).2 w w' := by
  have e : ansOf c L ⟨113, a, b⟩ = (procT (prN L a).1 (prN L a).2, L) := rfl
  have h1 : Hid (∀ W, Below w.heap.size w W → Calls Tryz.prog 25 #[.pointer (some ⟨P.tb, 0, none⟩), I a] W fun e w' => e = .returned (.tuple #[.agg #[I (prN L a).1.1, I (prN L a).1.2.1, I (prN L a).1.2.2], I (prN L a).2]) ∧ Below W.heap.size W w') := fun W hW => tproc_c (h.below hW) a
  obtain ⟨i1, i2, i3, i4⟩ := prN_in h.vb h.rel a
  have h2 : Hid (∀ W, Tab W → Calls Tryz.prog 26 #[.agg #[I (prN L a).1.1, I (prN L a).1.2.1, I (prN L a).1.2.2], I (prN L a).2] W fun x w' => x = .returned (S (procT (prN L a).1 (prN L a).2)) ∧ Below W.heap.size W w') := fun W hW => procText_c _ _ i1.i6 i2.i6 i3.i6 i4.i6 hW
  rw [e]
  dsimp only
  have HR : Hid (∀ W, Below w.heap.size w W → TRet B c P L w W) := fun W hW => TRet.same h hW
  have HTab : Hid (Tab w) := h.tab.tab
  generalize procT (prN L a).1 (prN L a).2 = t at *
  generalize (prN L a).1.1 = n1 at *
  generalize (prN L a).1.2.1 = n2 at *
  generalize (prN L a).1.2.2 = n3 at *
  generalize (prN L a).2 = er at *
  have hB0 : Hid (Below w.heap.size w (w.alloc (.cells #[.int .u8 113, I a, I b] 46))) := (Below.refl _ _).alloc (Nat.le_refl _) _
  obtain ⟨f1, _⟩ := nb_facts (nb_alloc w #[.int .u8 113, I a, I b] 46)
  have c0 := f1 0
  have c1 := f1 1
  simp at c0 c1
  clear h e f1 i1 i2 i3 i4
  go_enter Tryz.func10, Tryz.ntmps10
  go_wp2_with fail
  refine Calls.mono (h1.out _ hB0.out) ?_
  rintro e w1 ⟨rfl, hb1⟩
  have hb2 : Below w.heap.size w w1 := hB0.out.trans (hb1.mono hB0.out.size)
  clear h1 hb1 c0 c1
  go_wp2_with fail
  have hb3 : Below w.heap.size w (w1.alloc (.cells #[I n1, I n2, I n3] 82)) := hb2.alloc hb2.size _
  refine Calls.mono (h2.out _ (HTab.out.below hb3)) ?_
  rintro e w2 ⟨rfl, hb⟩
  go_wp2
  go_ret
  exact ⟨rfl, HR.out _ (hb3.trans (hb.mono hb3.size))⟩

set_option maxHeartbeats 4000000 in
theorem play_108 {w : World} {B : Nat} {c : Conf} {L : Lay} {P : PLay} (h : TSt w B c L P) (a b : Int) :
    Calls Tryz.prog 10 #[.pointer (some ⟨P.tb, 0, none⟩), .agg #[.int .u8 108, I a, I b]] w fun e w' => e = .returned (S (ansOf c L ⟨108, a, b⟩).1) ∧ TRet B c P (ansOf c L ⟨108, a, b⟩).2 w w' := by
  have e : ansOf c L ⟨108, a, b⟩ = (leavesT (rnodes L), L) := rfl
  obtain ⟨n1, n2⟩ := rnodes_ndb h.vb h.rel
  have h1 : Hid (∀ W, Below w.heap.size w W → Calls Tryz.prog 27 #[.pointer (some ⟨P.tb, 0, none⟩)] W fun e w' => e = .returned (S (leavesT (rnodes L))) ∧ Below W.heap.size W w') := fun W hW => leavesText_c _ _ n1 n2 (h.below hW).tab.tab (tnodes_c (h.below hW))
  rw [e]
  dsimp only
  have HR : Hid (∀ W, Below w.heap.size w W → TRet B c P L w W) := fun W hW => TRet.same h hW
  generalize leavesT (rnodes L) = t at *
  have hB0 : Hid (Below w.heap.size w (w.alloc (.cells #[.int .u8 108, I a, I b] 46))) := (Below.refl _ _).alloc (Nat.le_refl _) _
  obtain ⟨f1, _⟩ := nb_facts (nb_alloc w #[.int .u8 108, I a, I b] 46)
  have c0 := f1 0
  simp at c0
  clear h e f1 n1 n2
  go_enter Tryz.func10, Tryz.ntmps10
  go_wp2_with fail
  refine Calls.mono (h1.out _ hB0.out) ?_
  rintro e w1 ⟨rfl, hb1⟩
  go_wp2
  go_ret
  exact ⟨rfl, HR.out _ (hB0.out.trans (hb1.mono hB0.out.size))⟩

/-- A command that the reader may give. -/
def ChOk (cm : Cm) : Prop := (cm.ch = 105 ∨ cm.ch = 103 ∨ cm.ch = 112 ∨ cm.ch = 102 ∨ cm.ch = 117 ∨ cm.ch = 115 ∨ cm.ch = 114 ∨ cm.ch = 113 ∨ cm.ch = 108) ∧ InB cm.a
theorem play_c {w : World} {B : Nat} {c : Conf} {L : Lay} {P : PLay} (h : TSt w B c L P) (cm : Cm) (ho : ChOk cm) :
    Calls Tryz.prog 10 #[.pointer (some ⟨P.tb, 0, none⟩), cmV cm] w fun e w' => e = .returned (S (ansOf c L cm).1) ∧ TRet B c P (ansOf c L cm).2 w w' := by
  obtain ⟨ch, a, b⟩ := cm
  obtain ⟨hc, ha⟩ := ho
  simp only at hc ha
  rcases hc with rfl | rfl | rfl | rfl | rfl | rfl | rfl | rfl | rfl
  · exact play_105 h a b
  · exact play_103 h a b
  · exact play_112 h a b ha
  · exact play_102 h a b
  · exact play_117 h a b
  · exact play_115 h a b
  · exact play_114 h a b
  · exact play_113 h a b
  · exact play_108 h a b

end Go.Proofs.YtjnmpejcegmkhaaGreatDoor

namespace Go.Proofs.YtjnmpejcegmkhaaGreatDoor
open Go.RowKit

end Go.Proofs.YtjnmpejcegmkhaaGreatDoor

namespace Go.Proofs.YtjnmpejcegmkhaaGreatDoor
open Go.RowKit

/-- A new tree of the document, in no memory. -/
def newL (c : Conf) : Lay := ⟨0, c, .slice none 0 0, [], .slice none 0 0, (List.range (2 ^ (c.depth.toNat + 1))).map fun u => (.slice none 0 0, if u = 0 then [] else newHist c.start u)⟩
theorem newL_new (c : Conf) : NewLay c (newL c) := by
  refine ⟨rfl, rfl, by simp [newL], fun u h1 h2 => ?_, ?_⟩
  · have h2' : u < 2 ^ (c.depth.toNat + 1) := by simpa [newL] using h2
    unfold Lay.hist newL
    simp [List.getD_eq_getElem?_getD, h2']
    omega
  · unfold Lay.hist newL
    have : 0 < 2 ^ (c.depth.toNat + 1) := Nat.two_pow_pos _
    simp [List.getD_eq_getElem?_getD, this]
theorem newL_vb (c : Conf) : VB (newL c) := by
  refine ⟨fun x hx => ?_, fun y hy => ?_⟩
  · simp [newL] at hx
  · obtain ⟨u, _, rfl⟩ := List.mem_map.1 hy
    intro e he
    have i0 : InB 0 := inbN (by omega) (by omega)
    dsimp only at he
    split at he
    · simp at he
    · unfold newHist at he
      split at he
      · simp at he; rw [he]; exact ⟨i0, by simp⟩
      · split at he
        · simp at he; rw [he]; exact ⟨i0, by simp⟩
        · simp at he
theorem TSt.new {w : World} {B : Nat} {c : Conf} {P : PLay} (hm : mayC c = true) (h : PRep w B P) (hp : PNew c P) (hB : B ≤ w.heap.size) (ht : TabB B w) : TSt w B c (newL c) P :=
  ⟨h, crel_new hm (newL_new c) hp h.len, newL_vb c, hB, ht⟩

/- The reader gives commands that there are. -/
theorem rdNum_val {l : List UInt8} {x : Int × List UInt8} (h : rdNum l = some x) : 0 ≤ x.1 ∧ x.1 < 1000000 := by
  unfold rdNum at h
  split at h
  · simp at h
  · simp only [Option.some.injEq] at h
    rw [← h]
    exact dgv_range l
theorem rdOne_ok {ch : UInt8} {l : List UInt8} {x : Cm × List UInt8} (h : rdOne ch l = some x) : x.1.ch = ch ∧ InB x.1.a := by
  unfold rdOne at h
  cases hn : rdNum l with
  | none => rw [hn] at h; simp at h
  | some z =>
    rw [hn] at h
    have := rdNum_val hn
    simp only [Option.map_some, Option.some.injEq] at h
    rw [← h]
    exact ⟨rfl, by dsimp only; omega, by dsimp only; omega⟩
theorem rdTwo_ok {ch : UInt8} {l : List UInt8} {x : Cm × List UInt8} (h : rdTwo ch l = some x) : x.1.ch = ch ∧ InB x.1.a := by
  unfold rdTwo at h
  cases hn : rdNum l with
  | none => rw [hn] at h; simp at h
  | some z =>
    rw [hn] at h
    have := rdNum_val hn
    simp only [Option.bind_some] at h
    split at h
    · cases hm : rdNum z.2.tail with
      | none => rw [hm] at h; simp at h
      | some y =>
        rw [hm] at h
        simp only [Option.map_some, Option.some.injEq] at h
        rw [← h]
        exact ⟨rfl, by dsimp only; omega, by dsimp only; omega⟩
    · simp at h
theorem rdPut_ok {l : List UInt8} {x : Cm × List UInt8} (h : rdPut l = some x) : x.1.ch = 112 ∧ InB x.1.a := by
  unfold rdPut at h
  split at h
  · cases hn : rdNum l.tail with
    | none => rw [hn] at h; simp at h
    | some z =>
      rw [hn] at h
      have := rdNum_val hn
      simp only [Option.map_some, Option.some.injEq] at h
      rw [← h]
      exact ⟨rfl, by dsimp only; omega, by dsimp only; omega⟩
  · exact rdOne_ok h
theorem rdCm_ok {l : List UInt8} {x : Cm × List UInt8} (h : rdCm l = some x) : ChOk x.1 := by
  cases l with
  | nil => simp [rdCm] at h
  | cons ch r =>
    simp only [rdCm] at h
    split at h
    · rename_i hc
      simp only [Option.some.injEq] at h
      rw [← h]
      refine ⟨?_, by dsimp only; exact inbN (by omega) (by omega)⟩
      dsimp only
      rcases hc with rfl | rfl | rfl <;> simp
    split at h
    · have := rdPut_ok h
      exact ⟨by rw [this.1]; simp, this.2⟩
    split at h
    · rename_i hc
      have := rdOne_ok h
      refine ⟨?_, this.2⟩
      rw [this.1]
      rcases hc with rfl | rfl | rfl <;> simp
    split at h
    · rename_i hc
      have := rdTwo_ok h
      refine ⟨?_, this.2⟩
      rw [this.1]
      rcases hc with rfl | rfl <;> simp
    · simp at h
theorem rdAll_ok : ∀ (f : Nat) {l : List UInt8} {cs : List Cm}, rdAll f l = some cs → ∀ cm ∈ cs, ChOk cm
  | 0, l, cs, h => by simp [rdAll] at h
  | f + 1, l, cs, h => by
    unfold rdAll at h
    cases hc : rdCm l with
    | none => rw [hc] at h; simp at h
    | some x =>
      rw [hc] at h
      have hx := rdCm_ok hc
      simp only [Option.bind_some] at h
      split at h
      · simp only [Option.some.injEq] at h
        rw [← h]
        intro cm hm
        simp at hm
        rw [hm]
        exact hx
      · split at h
        · cases hr : rdAll f x.2.tail with
          | none => rw [hr] at h; simp at h
          | some r =>
            rw [hr] at h
            simp only [Option.map_some, Option.some.injEq] at h
            rw [← h]
            intro cm hm
            rcases List.mem_cons.1 hm with rfl | hm
            · exact hx
            · exact rdAll_ok f hr cm hm
        · simp at h
theorem rdText_ok {t : List UInt8} {cs : List Cm} (h : rdText t = some cs) : ∀ cm ∈ cs, ChOk cm := by
  unfold rdText at h
  split at h
  · simp at h
  · split at h
    · simp at h
      rw [h]
      intro cm hm
      simp at hm
    · exact rdAll_ok _ h

/-- What Play answers. -/
def playT (c : Conf) (t : List UInt8) : List UInt8 × Int :=
  if mayC c = false then ([], 1) else match rdText t with
    | none => ([], 7)
    | some cs => ((plA c (newL c) cs).2.1, 0)

/-- In the midst of a Play: behind commands cs. -/
def PlAt (B : Nat) (c : Conf) (tb : Nat) (cs : List Cm) (w : World) : Prop := ∃ P, P.tb = tb ∧ TSt w B c (plA c (newL c) cs).2.2 P
theorem PlAt.play {B : Nat} {c : Conf} {tb : Nat} {cs : List Cm} {w : World} (h : PlAt B c tb cs w) (cm : Cm) (ho : ChOk cm) :
    Calls Tryz.prog 10 #[.pointer (some ⟨tb, 0, none⟩), cmV cm] w fun e w' => e = .returned (S (ansOf c (plA c (newL c) cs).2.2 cm).1) ∧ PlAt B c tb (cs ++ [cm]) w' ∧ ChgT B TT w w' := by
  obtain ⟨P, rfl, h⟩ := h
  refine (play_c h cm ho).mono ?_
  rintro e w' ⟨rfl, ⟨P', e, h'⟩, hc⟩
  refine ⟨rfl, ⟨P', e, ?_⟩, hc⟩
  rw [plA_snoc]
  exact h'
theorem PlAt.len {B : Nat} {c : Conf} {tb : Nat} {cs : List Cm} {w : World} (h : PlAt B c tb cs w) (cm : Cm) : (ansOf c (plA c (newL c) cs).2.2 cm).1.length ≤ 10000000 := by
  obtain ⟨P, _, h⟩ := h
  exact ans_len h.vb h.rel cm
theorem PlAt.below {B : Nat} {c : Conf} {tb : Nat} {cs : List Cm} {w w' : World} (h : PlAt B c tb cs w) (hb : Below w.heap.size w w') : PlAt B c tb cs w' := by
  obtain ⟨P, e, h⟩ := h
  exact ⟨P, e, h.below hb⟩
theorem PlAt.hB {B : Nat} {c : Conf} {tb : Nat} {cs : List Cm} {w : World} (h : PlAt B c tb cs w) : B ≤ w.heap.size := by
  obtain ⟨P, e, h⟩ := h
  exact h.hB

theorem cm_row {w : World} {b : Nat} {x : Value} {cs : List Cm} (h : w.ownsRow b 46 3 x cs.length (cmCs cs)) : ∃ ao cap, x = .slice ao cs.length cap ∧ cs.length ≤ cap ∧ cs.length ≤ maxLen ∧ cap ≤ maxLen ∧ ∀ k, (hk : k < cs.length) → ∃ g, ao = some ⟨g, 0, none⟩ ∧ w.cell? ⟨g, k * 3, none⟩ = some (.int .u8 (cs[k]).ch.toNat) ∧ w.cell? ⟨g, k * 3 + 1, none⟩ = some (I (cs[k]).a) ∧ w.cell? ⟨g, k * 3 + 2, none⟩ = some (I (cs[k]).b) := by
  obtain ⟨ao, cap, e1, c1, c2, c3, h2⟩ := ownsRow_cells h
  refine ⟨ao, cap, e1, c1, c2, c3, fun k hk => ?_⟩
  obtain ⟨a1, a2, a3⟩ := cmCs_at cs k hk
  rw [Nat.mul_comm] at a1 a2 a3
  obtain ⟨g, e, _, d1⟩ := h2 _ _ a1
  obtain ⟨g2, e2, _, d2⟩ := h2 _ _ a2
  obtain ⟨g3, e3, _, d3⟩ := h2 _ _ a3
  have g12 : g2 = g := by rw [e] at e2; simpa using e2.symm
  have g13 : g3 = g := by rw [e] at e3; simpa using e3.symm
  rw [g12] at d2
  rw [g13] at d3
  exact ⟨g, e, d1, d2, d3⟩

set_option maxHeartbeats 8000000 in
set_option maxRecDepth 100000 in
theorem Play_c (c : Conf) (t : List UInt8) (ht : t.length < 2 ^ 63) {w : World} (h : Tab w) :
    Calls Tryz.prog 5 #[confV c, S t] w fun e w' => e = .returned (.tuple #[S (playT c t).1, I (playT c t).2]) ∧ Below w.heap.size w w' := by
  have hba : Below w.heap.size w (w.alloc (.cells #[I c.kind, I c.depth, I c.start, I c.slots, I c.width, I c.spin, I c.drain, I c.procs] 23)) := (Below.refl _ _).alloc (Nat.le_refl _) _
  have hSA := S_app
  unfold playT
  cases hm : mayC c with
  | false =>
    rw [if_pos rfl]
    have h1 := fun W => pnew_no c W hm
    unfold confV at h1 ⊢
    dsimp only
    replace h1 : Hid _ := h1
    replace hba : Hid _ := hba
    clear hm h
    go_enter Tryz.func5, Tryz.ntmps5
    go_wp2_with fail
    refine Calls.mono (h1.out _) ?_
    rintro e w1 ⟨rfl, hb1⟩
    go_wp2
    go_ret2
    exact ⟨rfl, hba.out.trans (hb1.mono hba.out.size)⟩
  | true =>
    rw [if_neg (by simp)]
    have h1 : Hid (∀ W, Below w.heap.size w W → Calls Tryz.prog 7 #[.agg #[I c.kind, I c.depth, I c.start, I c.slots, I c.width, I c.spin, I c.drain, I c.procs]] W fun e w' => ∃ tb, e = .returned (.tuple #[.pointer (some ⟨tb, 0, none⟩), I 0]) ∧ PlAt W.heap.size c tb [] w' ∧ Below W.heap.size W w') := by
      intro W hW
      refine (pnew_yes c W hm).mono ?_
      rintro e w' ⟨P, rfl, hp, hn, hb⟩
      exact ⟨P.tb, rfl, ⟨P, rfl, TSt.new hm hp hn hb.size ⟨w, h, hW.size, hW.trans (hb.mono hW.size)⟩⟩, hb⟩
    have h2 : Hid (∀ W, Calls Tryz.prog 9 #[S t] W fun e w' => RsRet W.heap.size (rdText t) e w' ∧ Below W.heap.size W w') := fun W => readScript_c t W ht
    unfold confV
    cases hr : rdText t with
    | none =>
      rw [hr] at h2
      dsimp only
      replace hba : Hid _ := hba
      clear hr h ht hm
      go_enter Tryz.func5, Tryz.ntmps5
      go_wp2_with fail
      refine Calls.mono (h1.out _ hba.out) ?_
      rintro e w1 ⟨tb, rfl, hp, hb1⟩
      replace hp : Hid _ := hp
      clear h1
      go_wp2_with fail
      refine Calls.mono (h2.out _) ?_
      rintro e w2 ⟨hrs, hb2⟩
      have hrs' : e = .returned (.tuple #[.slice none 0 0, .bool false]) := hrs
      subst hrs'
      clear hrs
      go_wp2
      go_ret2
      have hb3 := hba.out.trans (hb1.mono hba.out.size)
      exact ⟨rfl, hb3.trans (hb2.mono hb3.size)⟩
    | some cs =>
      rw [hr] at h2
      have HOk : Hid (∀ cm ∈ cs, ChOk cm) := rdText_ok hr
      have HE : Hid ((plA c (newL c) cs).2.1 = (plA c (newL c) (cs.take cs.length)).2.1) := by show _ = _; rw [List.take_length]
      dsimp only
      generalize (plA c (newL c) cs).2.1 = R at *
      replace hba : Hid _ := hba
      clear hr h ht hm
      go_enter Tryz.func5, Tryz.ntmps5
      go_wp2_with fail
      refine Calls.mono (h1.out _ hba.out) ?_
      rintro e w1 ⟨tb, rfl, hp, hb1⟩
      have hb3 : Below w.heap.size w w1 := hba.out.trans (hb1.mono hba.out.size)
      have HBs : Hid (w.heap.size ≤ (w.alloc (.cells #[I c.kind, I c.depth, I c.start, I c.slots, I c.width, I c.spin, I c.drain, I c.procs] 23)).heap.size) := hba.out.size
      generalize (w.alloc (.cells #[I c.kind, I c.depth, I c.start, I c.slots, I c.width, I c.spin, I c.drain, I c.procs] 23)).heap.size = B at *
      replace hp : Hid _ := hp
      clear h1 hb1 hba
      go_wp2_with fail
      refine Calls.mono (h2.out _) ?_
      rintro e w2 ⟨hrs, hb2⟩
      obtain ⟨x, rfl, hrow, h600⟩ := hrs
      obtain ⟨ao, cap, rfl, n1, n2, n3, _⟩ := ownsRow_cells hrow
      unfold maxLen at n2 n3
      have hp2 : Hid (PlAt B c tb [] w2) := PlAt.below hp.out hb2
      have hb4 : Hid (Below w.heap.size w w2) := hb3.trans (hb2.mono hb3.size)
      have HRow : Hid (w2.ownsRow w1.heap.size 46 3 (.slice ao cs.length cap) cs.length (cmCs cs)) := hrow
      clear hrow hb2 hb3 h2 hp
      go_wp2_with fail
      go_loopw [10, 11, 12] (fun tt ii _ wr => ∃ (k : Nat) (u : List UInt8), k ≤ cs.length ∧ tt = S u ∧ ii = I k ∧ Hid (u = (plA c (newL c) (cs.take k)).2.1) ∧ u.length ≤ 10000001 * k ∧ Hid (PlAt B c tb (cs.take k) wr) ∧ Hid (wr.ownsRow w1.heap.size 46 3 (.slice ao cs.length cap) cs.length (cmCs cs)) ∧ Hid (Below w.heap.size w wr)) (fun _ ii _ _ => cs.length - (intOf ii).toNat)
      case atStart => exact ⟨0, [], Nat.zero_le _, rfl, rfl, rfl, by simp, hp2, HRow, hb4⟩
      case round =>
        obtain ⟨k, u, hk, rfl, rfl, hu, hul, hpl, hrw, hbr⟩ := hrel
        by_cases hlt : k < cs.length
        · have bl : decide ((k : Int) < (cs.length : Int)) = true := by simp; omega
          obtain ⟨ao', cap', ee, _, _, _, hcell⟩ := cm_row hrw.out
          obtain ⟨rfl, _, rfl⟩ : ao = ao' ∧ cs.length = cs.length ∧ cap = cap' := by simpa using ee
          obtain ⟨g, rfl, d0, d1, d2⟩ := hcell k hlt
          have hcall := PlAt.play hpl.out cs[k] (HOk.out _ (List.getElem_mem hlt))
          have hal := PlAt.len hpl.out cs[k]
          have HS : Hid (plA c (newL c) (cs.take (k + 1)) = plS c (plA c (newL c) (cs.take k)) cs[k]) := by
            show _ = _
            rw [List.take_succ_eq_append_getElem hlt, plA_snoc]
          have HT : Hid (cs.take (k + 1) = cs.take k ++ [cs[k]]) := List.take_succ_eq_append_getElem hlt
          have hB := PlAt.hB hpl.out
          have HK : Hid ((plA c (newL c) (cs.take k)).1 = k) := by
            show _ = _
            rw [plA_len]
            simp
            omega
          rw [← HT.out] at hcall
          have HU : Hid ((plA c (newL c) (cs.take (k + 1))).2.1 = (if k = 0 then u else u ++ [59]) ++ (ansOf c (plA c (newL c) (cs.take k)).2.2 cs[k]).1) := by
            show _ = _
            rw [HS.out, hu.out]
            unfold plS
            rw [HK.out]
          unfold cmV at hcall
          replace hcall : Hid _ := hcall
          generalize (ansOf c (plA c (newL c) (cs.take k)).2.2 cs[k]).1 = a at *
          generalize cs[k] = cm at *
          obtain ⟨ch, xa, xb⟩ := cm
          dsimp only at d0 d1 d2 hcall
          clear HS HK ee hcell HT
          by_cases hk0 : k = 0
          · subst hk0
            have b0 : u.length + a.length ≤ 30000000 := by omega
            have q1 : ¬ 9223372036854775807 < u.length + a.length := by omega
            rw [if_pos rfl] at HU
            go_wp2_with fail
            refine Calls.mono hcall.out ?_
            rintro e w5 ⟨rfl, hp5, hc5⟩
            have HB5 : Hid (Below w.heap.size w w5) := hbr.out.trans ((hc5.below hB).mono HBs.out)
            have HR5 : Hid (w5.ownsRow w1.heap.size 46 3 (.slice (some ⟨g, 0, none⟩) cs.length cap) cs.length (cmCs cs)) := hc5.row hrw.out (by decide)
            replace hp5 : Hid _ := hp5
            clear hcall hc5 hrw hbr hpl d0 d1 d2
            go_wp2
            refine ⟨⟨1, u ++ a, by omega, rfl, rfl, HU.out.symm, by simp; omega, hp5, HR5, HB5⟩, ?_⟩
            show cs.length - ((0 : Int) + 1).toNat < cs.length - (0 : Int).toNat
            omega
          · have b0 : decide ((k : Int) > 0) = true := by simp; omega
            have q1 : ¬ 9223372036854775807 < u.length + 1 := by omega
            have q2 : ¬ 9223372036854775807 < u.length + 1 + a.length := by omega
            rw [if_neg hk0] at HU
            go_wp2_with fail
            refine Calls.mono hcall.out ?_
            rintro e w5 ⟨rfl, hp5, hc5⟩
            have HB5 : Hid (Below w.heap.size w w5) := hbr.out.trans ((hc5.below hB).mono HBs.out)
            have HR5 : Hid (w5.ownsRow w1.heap.size 46 3 (.slice (some ⟨g, 0, none⟩) cs.length cap) cs.length (cmCs cs)) := hc5.row hrw.out (by decide)
            replace hp5 : Hid _ := hp5
            clear hcall hc5 hrw hbr hpl d0 d1 d2
            go_wp2
            refine ⟨⟨k + 1, u ++ 59 :: a, by omega, rfl, rfl, ?_, by simp; omega, hp5, HR5, HB5⟩, ?_⟩
            · show _ = _
              rw [HU.out]
              simp
            · show cs.length - ((k : Int) + 1).toNat < cs.length - (k : Int).toNat
              omega
        · have ek : k = cs.length := by omega
          have bl : decide ((k : Int) < (cs.length : Int)) = false := by simp; omega
          have HF : Hid (u = R) := by
            show _ = _
            rw [hu.out, HE.out, ek]
          go_wp2
          go_ret2
          rw [← HF.out]
          exact ⟨rfl, hbr.out⟩

end Go.Proofs.YtjnmpejcegmkhaaGreatDoor
