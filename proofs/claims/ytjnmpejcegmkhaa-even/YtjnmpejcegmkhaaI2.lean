/- The contract of package prismkeep's sameBut. No statement of the seat is proved here. -/
import Derived.Test.YtjnmpejcegmkhaaKeep11
import Derived.Test.YtjnmpejcegmkhaaKeep12
import Derived.Test.YtjnmpejcegmkhaaI1
import Derived.Deep.DeepCutAuto
namespace Go.Proofs.Ytjnmpejcegmkhaa
open Go.RowKit

/-- Two lists of nodes that are the same but for one node and, if it is said, its children. -/
def SameL (a b : List ND) (v : Nat) (ch : Bool) : Prop :=
  ∀ u : Nat, 1 ≤ u → u < 64 → ¬ (u = v ∧ 0 < v) → ¬ (ch = true ∧ u / 2 = v ∧ 1 < u) →
    (findN u (a.map fun d => d.num) 0 = -1 ∧ findN u (b.map fun d => d.num) 0 = -1) ∨
    ∃ i j : Nat, ∃ hi : i < a.length, ∃ hj : j < b.length, findN u (a.map fun d => d.num) 0 = (i : Int) ∧ findN u (b.map fun d => d.num) 0 = (j : Int) ∧ b[j] = a[i]


set_option maxHeartbeats 8000000 in
set_option maxRecDepth 100000 in
theorem ksameBut_c {w : World} {ba bb : Nat} {x y : Value} {la lb : List (ND × Value × Value)} (ha : NodesRep w ba x la) (hb : NodesRep w bb y lb) (v : Nat) (ch : Bool) (hs : SameL (la.map fun z => z.1) (lb.map fun z => z.1) v ch) :
    Calls Try.prog 21 #[x, y, I v, .bool ch] w fun e w' => e = .returned (.bool true) ∧ Below w.heap.size w w' := by
  have HA : Hid (∀ W, Below w.heap.size w W → ∀ u, Calls Try.prog 20 #[x, I u] W fun e w' => e = .returned (I (findN u (la.map fun z => z.1.num) 0)) ∧ w' = W) := fun W hW u => find_c (ha.below hW (Nat.le_refl _)) u
  have HB : Hid (∀ W, Below w.heap.size w W → ∀ u, Calls Try.prog 20 #[y, I u] W fun e w' => e = .returned (I (findN u (lb.map fun z => z.1.num) 0)) ∧ w' = W) := fun W hW u => find_c (hb.below hW (Nat.le_refl _)) u
  have HS : Hid (∀ u : Nat, 1 ≤ u → u < 64 → ¬ (u = v ∧ 0 < v) → ¬ (ch = true ∧ u / 2 = v ∧ 1 < u) →
    (findN u (la.map fun z => z.1.num) 0 = -1 ∧ findN u (lb.map fun z => z.1.num) 0 = -1) ∨
    ∃ i j : Nat, ∃ hi : i < la.length, ∃ hj : j < lb.length, findN u (la.map fun z => z.1.num) 0 = (i : Int) ∧ findN u (lb.map fun z => z.1.num) 0 = (j : Int) ∧ (lb[j]).1 = (la[i]).1) := by
    intro u h1 h64 n1 n2
    have e1 : (la.map fun z => z.1).map (fun d => d.num) = la.map fun z => z.1.num := by simp [List.map_map, Function.comp_def]
    have e2 : (lb.map fun z => z.1).map (fun d => d.num) = lb.map fun z => z.1.num := by simp [List.map_map, Function.comp_def]
    have := hs u h1 h64 n1 n2
    rw [e1, e2] at this
    rcases this with h | ⟨i, j, hi, hj, a, b, d⟩
    · exact Or.inl h
    · refine Or.inr ⟨i, j, by simpa using hi, by simpa using hj, a, b, ?_⟩
      simpa using d
  obtain ⟨aa, ca, rfl, a1, a2, a3, a4⟩ := ownsRow_cells ha.row
  obtain ⟨ab, cb, rfl, b1, b2, b3, b4⟩ := ownsRow_cells hb.row
  have RA : Hid _ := ha
  have RB : Hid _ := hb
  unfold maxLen at a2 a3 b2 b3
  clear ha hb hs a4 b4
  generalize hvi : (v : Int) = vi
  go_enter Try.func21, Try.ntmps21
  go_wp2_with fail
  go_loopw [9, 10, 11, 12] (fun nn _ _ _ wr => ∃ u : Nat, 1 ≤ u ∧ u ≤ 64 ∧ nn = .int .i64 u ∧ Below w.heap.size w wr) (fun nn _ _ _ _ => 64 - (intOf nn).toNat)
  case atStart => exact ⟨1, by omega, by omega, rfl, Below.refl _ _⟩
  case round =>
    obtain ⟨u, h1, h64, rfl, hbr⟩ := hrel
    by_cases hlt : u < 64
    · have hso := HS.out u h1 hlt
      clear HS
      replace hso : Hid _ := hso
      have bl : decide ((u : Int) < 64) = true := decide_eq_true (by omega)
      by_cases n1 : u = v ∧ 0 < v
      · have t1 : ((u : Int) == vi) = true := by rw [beq_iff_eq]; have := n1.1; omega
        have t2 : decide ((0 : Int) < vi) = true := decide_eq_true (by have := n1.2; omega)
        clear n1 hso RA RB HA HB
        replace hvi : Hid _ := hvi
        go_wp2_with fail
        go_roundw
        case rel => exact ⟨u + 1, by omega, by omega, by go_num, hbr⟩
        case measure => simp [intOf]; omega
      · have t1 : ((u : Int) == vi) = false := by rw [beq_eq_false_iff_ne]; intro e; exact n1 ⟨by omega, by omega⟩
        by_cases n2 : ch = true ∧ u / 2 = v ∧ 1 < u
        · obtain ⟨rfl, e2, e3⟩ := n2
          have t3 : decide ((1 : Int) < (u : Int)) = true := decide_eq_true (by omega)
          have t4 : ((u : Int) / 2 == vi) = true := by rw [beq_iff_eq]; omega
          clear hso RA RB HA HB n1 e2
          replace hvi : Hid _ := hvi
          go_wp2_with fail
          go_roundw
          case rel => exact ⟨u + 1, by omega, by omega, by go_num, hbr⟩
          case measure => simp [intOf]; omega
        · have hc : ch = false ∨ (ch = true ∧ ¬ u / 2 = v) ∨ (ch = true ∧ u / 2 = v ∧ ¬ 1 < u) := by
            cases ch
            · exact Or.inl rfl
            · by_cases e2 : u / 2 = v
              · exact Or.inr (Or.inr ⟨rfl, e2, fun h => n2 ⟨rfl, e2, h⟩⟩)
              · exact Or.inr (Or.inl ⟨rfl, e2⟩)
          have hso2 := hso.out n1 n2
          clear hso n1 n2
          replace hso2 : Hid _ := hso2
          have hvh : Hid (vi = (v : Int)) := hvi.symm
          clear hvi
          rcases hc with rfl | ⟨rfl, e2⟩ | ⟨rfl, e2, e3⟩
          · go_wp2_with fail
            have hfa := HA.out _ hbr (u : Int)
            have hfb := HB.out _ hbr (u : Int)
            rcases hso2.out with ⟨f1, f2⟩ | ⟨i, j, hi, hj, f1, f2, hd⟩
            · rw [f1] at hfa
              rw [f2] at hfb
              replace hfa : Hid _ := hfa
              replace hfb : Hid _ := hfb
              clear hso2 f1 f2 RA RB HA HB
              go_wp2_with fail
              refine Calls.mono hfa.out ?_
              rintro e w9 ⟨rfl, rfl⟩
              go_wp2_with fail
              refine Calls.mono hfb.out ?_
              rintro e w9 ⟨rfl, rfl⟩
              go_wp2_with fail
              go_roundw
              case rel => exact ⟨u + 1, by omega, by omega, by go_num, hbr⟩
              case measure => simp [intOf]; omega
            · rw [f1] at hfa
              rw [f2] at hfb
              replace hfa : Hid _ := hfa
              replace hfb : Hid _ := hfb
              obtain ⟨g, e1, l1, f⟩ := nodes_at RA.out i hi
              obtain ⟨g', e2, l2, f'⟩ := nodes_at RB.out j hj
              have e3 := e1 _ _ _ rfl
              have e4 := e2 _ _ _ rfl
              subst e3 e4
              clear e1 e2
              have r1 := RA.out.waiting la[i] (List.getElem_mem _)
              have r2 := RA.out.items la[i] (List.getElem_mem _)
              have r3 := RB.out.waiting lb[j] (List.getElem_mem _)
              have r4 := RB.out.items lb[j] (List.getElem_mem _)
              rw [hd] at r3 r4 f'
              generalize la[i] = y at *
              generalize lb[j] = y' at *
              obtain ⟨d, wv, iv⟩ := y
              obtain ⟨d', wv', iv'⟩ := y'
              simp only at hd r1 r2 r3 r4 f f'
              have HC := fun W (hb : Below w.heap.size w W) => ksameNode_c (ownsRow_below r1 hb (Nat.le_refl _)) (ownsRow_below r3 hb (Nat.le_refl _)) (ownsRow_below r2 hb (Nat.le_refl _)) (ownsRow_below r4 hb (Nat.le_refl _))
              replace HC : Hid _ := HC
              obtain ⟨ao1, c1, rfl, _⟩ := row_cells r1
              obtain ⟨ao2, c2, rfl, _⟩ := row_cells r2
              obtain ⟨ao3, c3, rfl, _⟩ := row_cells r3
              obtain ⟨ao4, c4, rfl, _⟩ := row_cells r4
              have F := fun k hk => (hbr.cell (p := ⟨g, i * 12 + k, none⟩) l1).trans (f k hk)
              have F' := fun k hk => (hbr.cell (p := ⟨g', j * 12 + k, none⟩) l2).trans (f' k hk)
              obtain ⟨num, dep, rk, inner, sh, ins, tog, wid, wt, pu, ge, its⟩ := d
              have p0 := F 0 (by omega); have p1 := F 1 (by omega); have p2 := F 2 (by omega); have p3 := F 3 (by omega); have p4 := F 4 (by omega); have p5 := F 5 (by omega)
              have p6 := F 6 (by omega); have p7 := F 7 (by omega); have p8 := F 8 (by omega); have p9 := F 9 (by omega); have p10 := F 10 (by omega); have p11 := F 11 (by omega)
              have q0 := F' 0 (by omega); have q1 := F' 1 (by omega); have q2 := F' 2 (by omega); have q3 := F' 3 (by omega); have q4 := F' 4 (by omega); have q5 := F' 5 (by omega)
              have q6 := F' 6 (by omega); have q7 := F' 7 (by omega); have q8 := F' 8 (by omega); have q9 := F' 9 (by omega); have q10 := F' 10 (by omega); have q11 := F' 11 (by omega)
              simp only [ndCells, Nat.add_zero] at p0 p1 p2 p3 p4 p5 p6 p7 p8 p9 p10 p11 q0 q1 q2 q3 q4 q5 q6 q7 q8 q9 q10 q11
              clear F F' f f' hd r1 r2 r3 r4 RA RB hso2 f1 f2 HA HB
              have bi : decide ((i : Int) < 0) = false := decide_eq_false (by omega)
              have bj : decide ((j : Int) < 0) = false := decide_eq_false (by omega)
              go_wp2_with fail
              refine Calls.mono hfa.out ?_
              rintro e w9 ⟨rfl, rfl⟩
              go_wp2_with fail
              refine Calls.mono hfb.out ?_
              rintro e w9 ⟨rfl, rfl⟩
              go_wp2_with fail
              go_region_with (go_at_call 45; refine (HC.out _ (by first | exact hbr | exact hbr.drew)).mono ?_; rintro x w3 ⟨rfl, hb5⟩)
              all_goals
                have hb6 : Below w.heap.size w w3 := hbr.drew.trans (hb5.mono hbr.size)
                clear hb5
                go_wp2_with fail
                go_roundw
                case rel => exact ⟨u + 1, by omega, by omega, by go_num, hb6⟩
                case measure => simp [intOf]; omega
          · have t3 : ((u : Int) / 2 == vi) = false := by rw [beq_eq_false_iff_ne]; have := hvh.out; omega
            go_wp2_with fail
            have hfa := HA.out _ hbr (u : Int)
            have hfb := HB.out _ hbr (u : Int)
            rcases hso2.out with ⟨f1, f2⟩ | ⟨i, j, hi, hj, f1, f2, hd⟩
            · rw [f1] at hfa
              rw [f2] at hfb
              replace hfa : Hid _ := hfa
              replace hfb : Hid _ := hfb
              clear hso2 f1 f2 RA RB HA HB
              go_wp2_with fail
              refine Calls.mono hfa.out ?_
              rintro e w9 ⟨rfl, rfl⟩
              go_wp2_with fail
              refine Calls.mono hfb.out ?_
              rintro e w9 ⟨rfl, rfl⟩
              go_wp2_with fail
              go_roundw
              case rel => exact ⟨u + 1, by omega, by omega, by go_num, hbr⟩
              case measure => simp [intOf]; omega
            · rw [f1] at hfa
              rw [f2] at hfb
              replace hfa : Hid _ := hfa
              replace hfb : Hid _ := hfb
              obtain ⟨g, e1, l1, f⟩ := nodes_at RA.out i hi
              obtain ⟨g', e2, l2, f'⟩ := nodes_at RB.out j hj
              have e3 := e1 _ _ _ rfl
              have e4 := e2 _ _ _ rfl
              subst e3 e4
              clear e1 e2
              have r1 := RA.out.waiting la[i] (List.getElem_mem _)
              have r2 := RA.out.items la[i] (List.getElem_mem _)
              have r3 := RB.out.waiting lb[j] (List.getElem_mem _)
              have r4 := RB.out.items lb[j] (List.getElem_mem _)
              rw [hd] at r3 r4 f'
              generalize la[i] = y at *
              generalize lb[j] = y' at *
              obtain ⟨d, wv, iv⟩ := y
              obtain ⟨d', wv', iv'⟩ := y'
              simp only at hd r1 r2 r3 r4 f f'
              have HC := fun W (hb : Below w.heap.size w W) => ksameNode_c (ownsRow_below r1 hb (Nat.le_refl _)) (ownsRow_below r3 hb (Nat.le_refl _)) (ownsRow_below r2 hb (Nat.le_refl _)) (ownsRow_below r4 hb (Nat.le_refl _))
              replace HC : Hid _ := HC
              obtain ⟨ao1, c1, rfl, _⟩ := row_cells r1
              obtain ⟨ao2, c2, rfl, _⟩ := row_cells r2
              obtain ⟨ao3, c3, rfl, _⟩ := row_cells r3
              obtain ⟨ao4, c4, rfl, _⟩ := row_cells r4
              have F := fun k hk => (hbr.cell (p := ⟨g, i * 12 + k, none⟩) l1).trans (f k hk)
              have F' := fun k hk => (hbr.cell (p := ⟨g', j * 12 + k, none⟩) l2).trans (f' k hk)
              obtain ⟨num, dep, rk, inner, sh, ins, tog, wid, wt, pu, ge, its⟩ := d
              have p0 := F 0 (by omega); have p1 := F 1 (by omega); have p2 := F 2 (by omega); have p3 := F 3 (by omega); have p4 := F 4 (by omega); have p5 := F 5 (by omega)
              have p6 := F 6 (by omega); have p7 := F 7 (by omega); have p8 := F 8 (by omega); have p9 := F 9 (by omega); have p10 := F 10 (by omega); have p11 := F 11 (by omega)
              have q0 := F' 0 (by omega); have q1 := F' 1 (by omega); have q2 := F' 2 (by omega); have q3 := F' 3 (by omega); have q4 := F' 4 (by omega); have q5 := F' 5 (by omega)
              have q6 := F' 6 (by omega); have q7 := F' 7 (by omega); have q8 := F' 8 (by omega); have q9 := F' 9 (by omega); have q10 := F' 10 (by omega); have q11 := F' 11 (by omega)
              simp only [ndCells, Nat.add_zero] at p0 p1 p2 p3 p4 p5 p6 p7 p8 p9 p10 p11 q0 q1 q2 q3 q4 q5 q6 q7 q8 q9 q10 q11
              clear F F' f f' hd r1 r2 r3 r4 RA RB hso2 f1 f2 HA HB
              have bi : decide ((i : Int) < 0) = false := decide_eq_false (by omega)
              have bj : decide ((j : Int) < 0) = false := decide_eq_false (by omega)
              go_wp2_with fail
              refine Calls.mono hfa.out ?_
              rintro e w9 ⟨rfl, rfl⟩
              go_wp2_with fail
              refine Calls.mono hfb.out ?_
              rintro e w9 ⟨rfl, rfl⟩
              go_wp2_with fail
              go_region_with (go_at_call 45; refine (HC.out _ (by first | exact hbr | exact hbr.drew)).mono ?_; rintro x w3 ⟨rfl, hb5⟩)
              all_goals
                have hb6 : Below w.heap.size w w3 := hbr.drew.trans (hb5.mono hbr.size)
                clear hb5
                go_wp2_with fail
                go_roundw
                case rel => exact ⟨u + 1, by omega, by omega, by go_num, hb6⟩
                case measure => simp [intOf]; omega
          · have t3 : decide ((1 : Int) < (u : Int)) = false := decide_eq_false (by omega)
            have t4 : ((u : Int) / 2 == vi) = true := by rw [beq_iff_eq]; have := hvh.out; omega
            go_wp2_with fail
            have hfa := HA.out _ hbr (u : Int)
            have hfb := HB.out _ hbr (u : Int)
            rcases hso2.out with ⟨f1, f2⟩ | ⟨i, j, hi, hj, f1, f2, hd⟩
            · rw [f1] at hfa
              rw [f2] at hfb
              replace hfa : Hid _ := hfa
              replace hfb : Hid _ := hfb
              clear hso2 f1 f2 RA RB HA HB
              go_wp2_with fail
              refine Calls.mono hfa.out ?_
              rintro e w9 ⟨rfl, rfl⟩
              go_wp2_with fail
              refine Calls.mono hfb.out ?_
              rintro e w9 ⟨rfl, rfl⟩
              go_wp2_with fail
              go_roundw
              case rel => exact ⟨u + 1, by omega, by omega, by go_num, hbr⟩
              case measure => simp [intOf]; omega
            · rw [f1] at hfa
              rw [f2] at hfb
              replace hfa : Hid _ := hfa
              replace hfb : Hid _ := hfb
              obtain ⟨g, e1, l1, f⟩ := nodes_at RA.out i hi
              obtain ⟨g', e2, l2, f'⟩ := nodes_at RB.out j hj
              have e3 := e1 _ _ _ rfl
              have e4 := e2 _ _ _ rfl
              subst e3 e4
              clear e1 e2
              have r1 := RA.out.waiting la[i] (List.getElem_mem _)
              have r2 := RA.out.items la[i] (List.getElem_mem _)
              have r3 := RB.out.waiting lb[j] (List.getElem_mem _)
              have r4 := RB.out.items lb[j] (List.getElem_mem _)
              rw [hd] at r3 r4 f'
              generalize la[i] = y at *
              generalize lb[j] = y' at *
              obtain ⟨d, wv, iv⟩ := y
              obtain ⟨d', wv', iv'⟩ := y'
              simp only at hd r1 r2 r3 r4 f f'
              have HC := fun W (hb : Below w.heap.size w W) => ksameNode_c (ownsRow_below r1 hb (Nat.le_refl _)) (ownsRow_below r3 hb (Nat.le_refl _)) (ownsRow_below r2 hb (Nat.le_refl _)) (ownsRow_below r4 hb (Nat.le_refl _))
              replace HC : Hid _ := HC
              obtain ⟨ao1, c1, rfl, _⟩ := row_cells r1
              obtain ⟨ao2, c2, rfl, _⟩ := row_cells r2
              obtain ⟨ao3, c3, rfl, _⟩ := row_cells r3
              obtain ⟨ao4, c4, rfl, _⟩ := row_cells r4
              have F := fun k hk => (hbr.cell (p := ⟨g, i * 12 + k, none⟩) l1).trans (f k hk)
              have F' := fun k hk => (hbr.cell (p := ⟨g', j * 12 + k, none⟩) l2).trans (f' k hk)
              obtain ⟨num, dep, rk, inner, sh, ins, tog, wid, wt, pu, ge, its⟩ := d
              have p0 := F 0 (by omega); have p1 := F 1 (by omega); have p2 := F 2 (by omega); have p3 := F 3 (by omega); have p4 := F 4 (by omega); have p5 := F 5 (by omega)
              have p6 := F 6 (by omega); have p7 := F 7 (by omega); have p8 := F 8 (by omega); have p9 := F 9 (by omega); have p10 := F 10 (by omega); have p11 := F 11 (by omega)
              have q0 := F' 0 (by omega); have q1 := F' 1 (by omega); have q2 := F' 2 (by omega); have q3 := F' 3 (by omega); have q4 := F' 4 (by omega); have q5 := F' 5 (by omega)
              have q6 := F' 6 (by omega); have q7 := F' 7 (by omega); have q8 := F' 8 (by omega); have q9 := F' 9 (by omega); have q10 := F' 10 (by omega); have q11 := F' 11 (by omega)
              simp only [ndCells, Nat.add_zero] at p0 p1 p2 p3 p4 p5 p6 p7 p8 p9 p10 p11 q0 q1 q2 q3 q4 q5 q6 q7 q8 q9 q10 q11
              clear F F' f f' hd r1 r2 r3 r4 RA RB hso2 f1 f2 HA HB
              have bi : decide ((i : Int) < 0) = false := decide_eq_false (by omega)
              have bj : decide ((j : Int) < 0) = false := decide_eq_false (by omega)
              go_wp2_with fail
              refine Calls.mono hfa.out ?_
              rintro e w9 ⟨rfl, rfl⟩
              go_wp2_with fail
              refine Calls.mono hfb.out ?_
              rintro e w9 ⟨rfl, rfl⟩
              go_wp2_with fail
              go_region_with (go_at_call 45; refine (HC.out _ (by first | exact hbr | exact hbr.drew)).mono ?_; rintro x w3 ⟨rfl, hb5⟩)
              all_goals
                have hb6 : Below w.heap.size w w3 := hbr.drew.trans (hb5.mono hbr.size)
                clear hb5
                go_wp2_with fail
                go_roundw
                case rel => exact ⟨u + 1, by omega, by omega, by go_num, hb6⟩
                case measure => simp [intOf]; omega
    · have bl : decide ((u : Int) < 64) = false := decide_eq_false (by omega)
      clear HS HA HB RA RB
      go_wp2_with fail
      go_ret
      exact ⟨rfl, hbr⟩

structure InsL (W : Nat) (ps : List (Nat × Pr)) (l : List ND) : Prop where
  each : ∀ i, (hi : i < l.length) → ∃ v : Nat, (l[i]).num = (v : Int) ∧ (l[i]).inside = (insideL v ps : Int) ∧ (l[i]).shut = shutL v ps ∧ SlotsOk W ps l[i]
  done : ∀ p, (hp : p < ps.length) → ((ps[p]).2.phase = 20 ↔ (ps[p]).2.node = 0) ∧ ((ps[p]).2.node ≠ 0 → 0 ≤ findN (ps[p]).2.node (l.map fun d => d.num) 0)
  ok : ∀ p, (hp : p < ps.length) → NodeOk (ps[p]).2

end Go.Proofs.Ytjnmpejcegmkhaa
