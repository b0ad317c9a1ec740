/- The contract of the statements' own looks: every list that is kept still holds what its owner wrote. No statement of the seat is proved here. -/
import Derived.Test.YtjnmpejcegmkhaaA2
import Derived.Test.YtjnmpejcegmkhaaRefB
import Derived.Deep.QuietTactic
import Derived.BigQuiet
namespace Go.Proofs.Ytjnmpejcegmkhaa
open Go.RowKit
variable {Fr : Nat → Prop}

theorem AKm.listAt {w : World} {B lb : Nat} {pt rt : Value} {K : Kp} (h : AK w B lb pt rt K) (k : Nat) (hk : k < K.xs.length) : ∃ gl cl gm cm a m mk, K.xl = .slice (some ⟨gl, 0, none⟩) K.xs.length cl ∧ K.xs.length ≤ cl ∧ cl ≤ maxLen ∧ w.cell? ⟨gl, k, none⟩ = some (.slice a m m) ∧ m ≤ maxLen ∧
    K.xm = .slice (some ⟨gm, 0, none⟩) K.xs.length cm ∧ K.xs.length ≤ cm ∧ cm ≤ maxLen ∧ w.cell? ⟨gm, k, none⟩ = some (I mk) ∧ ∀ j, j < m → ∃ g, a = some ⟨g, 0, none⟩ ∧ w.cell? ⟨g, j, none⟩ = some (I mk) := by
  have hk' : k < K.ms.length := by have := h.len; omega
  obtain ⟨a, m, e, ho⟩ := h.full k hk hk'
  obtain ⟨al, cl, e1, q1, q2, q3, h1⟩ := ownsRow_cells h.lrow
  obtain ⟨am, cm, e2, r1, r2, r3, h2⟩ := ownsRow_cells h.mrow
  obtain ⟨gl, e3, _, c1⟩ := h1 k K.xs[k] (List.getElem?_eq_getElem hk)
  obtain ⟨gm, e4, _, c2⟩ := h2 k (I K.ms[k]) (by simp [List.getElem?_eq_getElem hk'])
  subst e3 e4
  rw [e] at c1
  obtain ⟨ao, cap, e5, s1, s2, s3, h3⟩ := ownsRow_cells ho
  rw [e] at e5
  simp only [Value.slice.injEq] at e5
  refine ⟨gl, cl, gm, cm, a, m, K.ms[k], e1, q1, q3, c1, s2, e2, r1, r3, c2, fun j hj => ?_⟩
  obtain ⟨g, e6, _, c3⟩ := h3 j (I K.ms[k]) (by simp [hj])
  exact ⟨g, by rw [e5.1]; exact e6, c3⟩

theorem AKm.outAt {w : World} {B lb : Nat} {pt rt : Value} {K : Kp} (h : AK w B lb pt rt K) (k : Nat) (hk : k < K.os.length) : ∃ gl cl g m mk, K.xo = .slice (some ⟨gl, 0, none⟩) K.os.length cl ∧ K.os.length ≤ cl ∧ cl ≤ maxLen ∧ w.cell? ⟨gl, k, none⟩ = some (.slice (some ⟨g, 0, none⟩) m m) ∧ 1 ≤ m ∧ m ≤ maxLen ∧ mk ≤ -1000 ∧
    ∀ j, j < m → ∀ t, t < 12 → w.cell? ⟨g, j * 12 + t, none⟩ = (bareN mk)[t]? := by
  have hk' : k < K.om.length := by have := h.olen; omega
  obtain ⟨a, m, e, m1, ho⟩ := h.ofull k hk hk'
  obtain ⟨al, cl, e1, q1, q2, q3, h1⟩ := ownsRow_cells h.orow
  obtain ⟨gl, e3, _, c1⟩ := h1 k K.os[k] (List.getElem?_eq_getElem hk)
  subst e3
  obtain ⟨ao, cap, e5, s1, s2, s3, h3⟩ := ownsRow_cells ho
  have key : ∀ j, j < m → ∀ t, t < 12 → ∃ g, ao = some ⟨g, 0, none⟩ ∧ w.cell? ⟨g, j * 12 + t, none⟩ = (bareN K.om[k])[t]? := by
    intro j hj t ht
    have hl : t < (bareN K.om[k]).length := ht
    obtain ⟨g, e6, _, c3⟩ := h3 (j * 12 + t) ((bareN K.om[k])[t]) (by
      rw [flat_at bareN 12 (fun _ => rfl) (List.replicate m K.om[k]) j (by simpa using hj) t ht, List.getElem_replicate, List.getElem?_eq_getElem hl])
    exact ⟨g, e6, by rw [c3, List.getElem?_eq_getElem hl]⟩
  obtain ⟨g, e6, _⟩ := key 0 (by omega) 0 (by omega)
  rw [e5, e6] at c1
  rw [e] at e5
  simp only [Value.slice.injEq] at e5
  rw [← e5.2.2] at c1
  refine ⟨gl, cl, g, m, K.om[k], e1, q1, q3, c1, m1, s2, h.ole _ (List.getElem_mem hk'), fun j hj t ht => ?_⟩
  obtain ⟨g', e7, c⟩ := key j hj t ht
  rw [e6] at e7
  simp at e7
  rw [e7]
  exact c

set_option maxHeartbeats 8000000 in
set_option maxRecDepth 100000 in
theorem alooks_c {w : World} {B lb : Nat} {pt rt : Value} {K : Kp} (h : AK w B lb pt rt K) :
    Calls Try.prog 34 #[.pointer (some ⟨lb, 0, none⟩)] w fun e w' => e = .returned (.bool true) ∧ Below w.heap.size w w' := by
  have HL : Hid (∀ W, Below w.heap.size w W → ∀ k, k < K.xs.length → ∃ gl cl gm cm a m mk, K.xl = .slice (some ⟨gl, 0, none⟩) K.xs.length cl ∧ K.xs.length ≤ cl ∧ cl ≤ maxLen ∧ W.cell? ⟨gl, k, none⟩ = some (.slice a m m) ∧ m ≤ maxLen ∧
    K.xm = .slice (some ⟨gm, 0, none⟩) K.xs.length cm ∧ K.xs.length ≤ cm ∧ cm ≤ maxLen ∧ W.cell? ⟨gm, k, none⟩ = some (I mk) ∧ ∀ j, j < m → ∃ g, a = some ⟨g, 0, none⟩ ∧ W.cell? ⟨g, j, none⟩ = some (I mk)) := fun W hb k hk => (h.below hb).listAt k hk
  have HO : Hid (∀ W, Below w.heap.size w W → ∀ k, k < K.os.length → ∃ gl cl g m mk, K.xo = .slice (some ⟨gl, 0, none⟩) K.os.length cl ∧ K.os.length ≤ cl ∧ cl ≤ maxLen ∧ W.cell? ⟨gl, k, none⟩ = some (.slice (some ⟨g, 0, none⟩) m m) ∧ 1 ≤ m ∧ m ≤ maxLen ∧ mk ≤ -1000 ∧
    ∀ j, j < m → ∀ t, t < 12 → W.cell? ⟨g, j * 12 + t, none⟩ = (bareN mk)[t]?) := fun W hb k hk => (h.below hb).outAt k hk
  have HC : Hid (∀ W, Below w.heap.size w W → ∃ al cl ao co, W.cell? ⟨lb, 2, none⟩ = some (.slice al K.xs.length cl) ∧ K.xl = .slice al K.xs.length cl ∧ W.cell? ⟨lb, 3, none⟩ = some K.xm ∧ W.cell? ⟨lb, 4, none⟩ = some (.slice ao K.os.length co) ∧ K.xo = .slice ao K.os.length co) := by
    intro W hb
    have h1 := h.below hb
    obtain ⟨al, cl, e1, _⟩ := ownsRow_cells h1.lrow
    obtain ⟨ao, co, e2, _⟩ := ownsRow_cells h1.orow
    refine ⟨al, cl, ao, co, ?_, e1, ?_, ?_, e2⟩
    · rw [block_cell h1.law, ← e1]; rfl
    · rw [block_cell h1.law]; rfl
    · rw [block_cell h1.law, ← e2]; rfl
  have n2 : K.xs.length ≤ maxLen := by obtain ⟨_, _, _, _, q, _⟩ := ownsRow_cells h.lrow; exact q
  have n3 : K.os.length ≤ maxLen := by obtain ⟨_, _, _, _, q, _⟩ := ownsRow_cells h.orow; exact q
  unfold maxLen at n2 n3
  clear h
  generalize K.xs.length = n at *
  generalize K.os.length = no at *
  go_enter Try.func34, Try.ntmps34
  go_wp2_with fail
  go_loopw [3, 4] (fun i _ wr => ∃ k : Nat, k ≤ n ∧ i = .int .i64 k ∧ Below w.heap.size w wr) (fun i _ _ => n - (intOf i).toNat)
  case atStart => exact ⟨0, Nat.zero_le _, rfl, Below.refl _ _⟩
  case round =>
    obtain ⟨k, hk, rfl, hbr⟩ := hrel
    obtain ⟨al, cl, ao, co, c2, e1, c3, c4, e2⟩ := HC.out wr hbr
    by_cases hlt : k < n
    · obtain ⟨gl, cl', gm, cm, a, m, mk, e3, q1, q2, d1, q3, e4, q4, q5, d2, hin⟩ := HL.out wr hbr k hlt
      rw [e1] at e3
      simp only [Value.slice.injEq] at e3
      obtain ⟨rfl, _, rfl⟩ := e3
      rw [e4] at c3
      unfold maxLen at q2 q3 q5
      clear e1 e4 e2
      have hki : (k : Int) < n := by omega
      go_wp2_with fail
      go_loopw [4] (fun kk wr2 => ∃ j : Nat, j ≤ m ∧ kk = .int .i64 j ∧ Below wr.heap.size wr wr2) (fun kk _ => m - (intOf kk).toNat)
      case atStart => exact ⟨0, Nat.zero_le _, rfl, Below.refl _ _⟩
      case round =>
        obtain ⟨j, hj, rfl, hb2⟩ := hrel
        have l2 := cell_lt c2
        have l3 := cell_lt d1
        have l4 := cell_lt d2
        have x2 := (hb2.cell (p := ⟨lb, 2, none⟩) l2).trans c2
        have x3 := (hb2.cell (p := ⟨lb, 3, none⟩) l2).trans c3
        have y1 := (hb2.cell (p := ⟨gl, k, none⟩) l3).trans d1
        have y2 := (hb2.cell (p := ⟨gm, k, none⟩) l4).trans d2
        by_cases hjl : j < m
        · obtain ⟨g, rfl, d3⟩ := hin j hjl
          have l5 := cell_lt d3
          have y3 := (hb2.cell (p := ⟨g, j, none⟩) l5).trans d3
          have hji : (j : Int) < m := by omega
          clear hin
          go_wp2_with fail
          go_quiet (fail)
          go_wp2
          go_roundw
          case rel => exact ⟨j + 1, by omega, by go_num, Below.drewN' hb2 _⟩
          case measure => simp [intOf]; omega
        · have e : j = m := by omega
          subst e
          have hb4 := hbr.trans (hb2.mono hbr.size)
          clear hin
          go_wp2_with fail
          go_roundw
          case rel => exact ⟨k + 1, by omega, by go_num, hb4⟩
          case measure => simp [intOf]; omega
    · have e : k = n := by omega
      subst e
      clear HL c3 e1
      go_wp2_with fail
      go_loopw [5, 6, 7] (fun i _ _ wr => ∃ k : Nat, k ≤ no ∧ i = .int .i64 k ∧ Below w.heap.size w wr) (fun i _ _ _ => no - (intOf i).toNat)
      case atStart => exact ⟨0, Nat.zero_le _, rfl, hbr⟩
      case round =>
        clear c4 e2 c2 hbr
        obtain ⟨q, hq, rfl, hbq⟩ := hrel
        obtain ⟨al2, cl2, ao2, co2, _, _, _, c4, e2⟩ := HC.out _ hbq
        by_cases hlt2 : q < no
        · obtain ⟨go, cl', g, m, mk, e3, q1, q2, d1, m1, q3, mk1, hin⟩ := HO.out wr hbq q hlt2
          rw [e2] at e3
          simp only [Value.slice.injEq] at e3
          obtain ⟨rfl, _, rfl⟩ := e3
          unfold maxLen at q2 q3
          clear e2
          have hqi : (q : Int) < no := by omega
          have HIN : Hid (∀ W, Below wr.heap.size wr W → ∀ j, j < m → ∀ t, t < 12 → W.cell? ⟨g, j * 12 + t, none⟩ = (bareN mk)[t]?) := by
            intro W hb j hj t ht
            have hc := hin j hj t ht
            have hl : t < (bareN mk).length := ht
            rw [List.getElem?_eq_getElem hl] at hc ⊢
            exact (hb.cell (p := ⟨g, j * 12 + t, none⟩) (cell_lt hc)).trans hc
          have l2 := cell_lt c4
          have l3 := cell_lt d1
          clear hin
          go_wp2_with fail
          go_loopw [6, 7] (fun kk _ wr2 => ∃ j : Nat, j ≤ m ∧ kk = .int .i64 j ∧ Below wr.heap.size wr wr2) (fun kk _ _ => m - (intOf kk).toNat)
          case atStart => exact ⟨0, Nat.zero_le _, rfl, Below.refl _ _⟩
          case round =>
            obtain ⟨j, hj, rfl, hb2⟩ := hrel
            have x2 := (hb2.cell (p := ⟨lb, 4, none⟩) l2).trans c4
            have y1 := (hb2.cell (p := ⟨go, q, none⟩) l3).trans d1
            by_cases hjl : j < m
            · have hji : (j : Int) < m := by omega
              have F := HIN.out _ hb2 j hjl
              have p0 := F 0 (by omega); have p1 := F 1 (by omega); have p2 := F 2 (by omega); have p3 := F 3 (by omega); have p4 := F 4 (by omega); have p5 := F 5 (by omega)
              have p6 := F 6 (by omega); have p7 := F 7 (by omega); have p8 := F 8 (by omega); have p9 := F 9 (by omega); have p10 := F 10 (by omega); have p11 := F 11 (by omega)
              have z0 := HIN.out _ hb2 0 (by omega) 0 (by omega)
              simp only [bareN, ndCells, Nat.add_zero, Nat.zero_mul, List.getElem?_cons_succ, List.getElem?_cons_zero] at p0 p1 p2 p3 p4 p5 p6 p7 p8 p9 p10 p11 z0
              have lg := cell_lt z0
              have lx2 := cell_lt x2
              have ly1 := cell_lt y1
              have hgt : decide (mk > -1000) = false := by simp; omega
              clear F
              go_wp2_with fail
              go_quiet (fail)
              go_wp2
              go_roundw
              case rel => exact ⟨j + 1, by omega, by go_num, Below.drewN' (hb2.alloc hb2.size _) _⟩
              case measure => simp [intOf]; omega
            · have e : j = m := by omega
              subst e
              have hb4 := hbq.trans (hb2.mono hbq.size)
              go_wp2_with fail
              go_roundw
              case rel => exact ⟨q + 1, by omega, by go_num, hb4⟩
              case measure => simp [intOf]; omega
        · have e : q = no := by omega
          subst e
          go_wp2
          go_ret
          exact ⟨rfl, hbq⟩

end Go.Proofs.Ytjnmpejcegmkhaa
