/- The contract of package prismkeep's shaped. No statement of the seat is proved here. -/
import Derived.Test.YtjnmpejcegmkhaaH6
import Derived.Deep.QuietTactic
import Derived.BigQuiet
namespace Go.Proofs.Ytjnmpejcegmkhaa
open Go.RowKit

def innN : List ND → Nat
  | [] => 0
  | d :: r => (if d.inner then 1 else 0) + innN r
theorem innN_app (a b : List ND) : innN (a ++ b) = innN a + innN b := by
  induction a with
  | nil => simp [innN]
  | cons x a ih => simp [innN, ih]; omega

/-- A list of nodes that is a tree, of depth D at most. -/
structure ShapedL (D : Nat) (l : List ND) : Prop where
  d4 : D ≤ 4
  ne : 0 < l.length
  len : l.length ≤ 64
  root : ∀ h : 0 < l.length, (l[0]).num = 1
  each : ∀ i, (hi : i < l.length) → ∃ v : Nat, (l[i]).num = (v : Int) ∧ 1 ≤ v ∧ v < 2 * 2 ^ D ∧ (l[i]).depth = (Nat.log2 v : Int) ∧ (l[i]).rank = (rank v : Int)
  rise : ∀ i, (hi : i + 1 < l.length) → (l[i]).num < (l[i + 1]).num
  kids : ∀ i, (hi : i < l.length) → (l[i]).inner = true → 0 ≤ findN (2 * (l[i]).num) (l.map fun d => d.num) 0 ∧ 0 ≤ findN (2 * (l[i]).num + 1) (l.map fun d => d.num) 0
  many : 1 + 2 * innN l = l.length

set_option maxHeartbeats 8000000 in
set_option maxRecDepth 100000 in
theorem shaped_c {w : World} {hb b : Nat} {x : Value} {l : List (ND × Value × Value)} (D : Nat) (hD : w.cell? ⟨hb, 2, none⟩ = some (I D)) (h : NodesRep w b x l) (hs : ShapedL D (l.map fun y => y.1)) :
    Calls Try.prog 23 #[.pointer (some ⟨hb, 0, none⟩), x] w fun e w' => e = .returned (.bool true) ∧ Below w.heap.size w w' := by
  have l0 := cell_lt hD
  have HF : Hid (∀ W, Below w.heap.size w W → ∀ v, Calls Try.prog 20 #[x, I v] W fun e w' => e = .returned (I (findN v (l.map fun y => y.1.num) 0)) ∧ w' = W) := fun W hW v => find_c (h.below hW (Nat.le_refl _)) v
  have hnum : (l.map fun y => y.1).map (fun d => d.num) = l.map fun y => y.1.num := by simp [List.map_map, Function.comp_def]
  have hlen : (l.map fun y => y.1).length = l.length := by simp
  have HN : Hid (∀ k, (hk : k < l.length) → ∃ g, (∀ ao n c, x = .slice ao n c → ao = some ⟨g, 0, none⟩) ∧ g < w.heap.size ∧ ∀ j, j < 12 → w.cell? ⟨g, k * 12 + j, none⟩ = (ndCells (l[k]).1 (l[k]).2.1 (l[k]).2.2)[j]?) := fun k hk => nodes_at h k hk
  have HV : Hid (∀ k, (hk : k < l.length) → (∃ ao n c, (l[k]).2.1 = .slice ao n c) ∧ (∃ ao n c, (l[k]).2.2 = .slice ao n c)) := by
    intro k hk
    obtain ⟨ao1, c1, e1, _⟩ := row_cells (h.waiting l[k] (List.getElem_mem _))
    obtain ⟨ao2, c2, e2, _⟩ := row_cells (h.items l[k] (List.getElem_mem _))
    exact ⟨⟨_, _, _, e1⟩, ⟨_, _, _, e2⟩⟩
  obtain ⟨ao, cap, ex, c1, c2, c3, _⟩ := ownsRow_cells h.row
  have hl64 : l.length ≤ 64 := by have := hs.len; omega
  have hl1 : 0 < l.length := by have := hs.ne; omega
  have HE : Hid (∀ k, (hk : k < l.length) → ∃ v : Nat, (l[k]).1.num = (v : Int) ∧ 1 ≤ v ∧ v < 2 * 2 ^ D ∧ (l[k]).1.depth = (Nat.log2 v : Int) ∧ (l[k]).1.rank = (rank v : Int)) := by
    intro k hk
    have := hs.each k (by rw [hlen]; exact hk)
    simpa using this
  have HR : Hid (∀ k, (hk : k + 1 < l.length) → (l[k]).1.num < (l[k + 1]).1.num) := by
    intro k hk
    have := hs.rise k (by rw [hlen]; exact hk)
    simpa using this
  have HK : Hid (∀ k, (hk : k < l.length) → (l[k]).1.inner = true → 0 ≤ findN (2 * (l[k]).1.num) (l.map fun y => y.1.num) 0 ∧ 0 ≤ findN (2 * (l[k]).1.num + 1) (l.map fun y => y.1.num) 0) := by
    intro k hk hi
    have := hs.kids k (by rw [hlen]; exact hk) (by simpa using hi)
    rw [hnum] at this
    simpa using this
  have HM : Hid (∀ k, (hk : k < l.length) → innN ((l.map fun y => y.1).take (k + 1)) = innN ((l.map fun y => y.1).take k) + (if (l[k]).1.inner then 1 else 0)) := by
    intro k hk
    rw [take_succ_get _ k (by rw [hlen]; exact hk), innN_app]
    simp [innN]
  have HMA : Hid (1 + 2 * innN ((l.map fun y => y.1).take l.length) = l.length) := by
    have := hs.many
    rw [← hlen, List.take_length]
    exact this
  have HML : Hid (∀ k, innN ((l.map fun y => y.1).take k) ≤ 64) := by
    intro k
    have key : ∀ a : List ND, innN a ≤ a.length := by
      intro a
      induction a with
      | nil => simp [innN]
      | cons d r ih => simp only [innN, List.length_cons]; split <;> omega
    have := key ((l.map fun y => y.1).take k)
    have h2 := List.length_take_le k (l.map fun y => y.1)
    have h3 := List.length_take_le' k (l.map fun y => y.1)
    omega
  have hroot : ∃ g, ao = some ⟨g, 0, none⟩ ∧ w.cell? ⟨g, 0, none⟩ = some (I 1) := by
    obtain ⟨g, e, lg, f⟩ := HN.out 0 hl1
    have e' := e _ _ _ ex
    refine ⟨g, e', ?_⟩
    have := f 0 (by omega)
    have hr := hs.root (by rw [hlen]; exact hl1)
    simp only [List.getElem_map] at hr
    simp only [ndCells, hr] at this
    simpa using this
  have d4 := hs.d4
  have h2D : 2 ^ D ≤ 2 ^ 4 := Nat.pow_le_pow_right (by omega) d4
  have HSH : Hid (wrap64 (2 * 2 ^ D) = ((2 * 2 ^ D : Nat) : Int)) := by
    show _ = _
    have e : (2 * 2 ^ D : Int) = ((2 * 2 ^ D : Nat) : Int) := by push_cast; rfl
    rw [e]
    generalize (2 : Nat) ^ D = z at *
    exact IntWalk.wrap64_in _ ⟨by omega, by omega⟩
  obtain ⟨g0, rfl, hr0⟩ := hroot
  have lg0 := cell_lt hr0
  unfold maxLen at c2 c3
  clear hs h hnum hlen
  subst ex
  go_enter Try.func23, Try.ntmps23
  have bn : ((l.length : Int) == 0) = false := by rw [beq_eq_false_iff_ne]; omega
  go_wp2_with fail
  go_loopw [5, 6, 7, 8, 9] (fun mm ii _ _ _ wr => ∃ k : Nat, k ≤ l.length ∧ mm = .int .i64 ((1 + 2 * innN ((l.map fun y => y.1).take k) : Nat) : Int) ∧ ii = .int .i64 k ∧ Below w.heap.size w wr) (fun _ ii _ _ _ _ => l.length - (intOf ii).toNat)
  case atStart => exact ⟨0, Nat.zero_le _, by simp [innN], rfl, Below.refl _ _⟩
  case round =>
    obtain ⟨k, hk, rfl, rfl, hbr⟩ := hrel
    have hml := HML.out k
    by_cases hlt : k < l.length
    · obtain ⟨g, e1, l1, f⟩ := HN.out k hlt
      have e2 := e1 _ _ _ rfl
      obtain rfl : g0 = g := by simpa using e2
      obtain ⟨v, ev, hv1, hvD, edp, erk⟩ := HE.out k hlt
      have hks := HK.out k hlt
      have hm := HM.out k hlt
      obtain ⟨⟨w1, w2, w3, ew⟩, ⟨i1, i2, i3, ei⟩⟩ := HV.out k hlt
      have hprev : k = 0 ∨ ∃ (k' : Nat) (pv : Int), k = k' + 1 ∧ pv < (v : Int) ∧ w.cell? ⟨g0, k' * 12, none⟩ = some (I pv) := by
        by_cases e0 : k = 0
        · exact Or.inl e0
        · right
          obtain ⟨k', rfl⟩ : ∃ k', k = k' + 1 := ⟨k - 1, by omega⟩
          obtain ⟨g', e1', _, f'⟩ := HN.out k' (by omega)
          have e2' := e1' _ _ _ rfl
          obtain rfl : g0 = g' := by simpa using e2'
          have hr := HR.out k' hlt
          rw [ev] at hr
          exact ⟨k', _, rfl, hr, by have := f' 0 (by omega); simpa [ndCells] using this⟩
      generalize l[k] = y at *
      obtain ⟨d, wv, iv⟩ := y
      obtain ⟨num, dep, rk, inner, sh, ins, tog, wid, wt, pu, ge, its⟩ := d
      simp only at ev edp erk ew ei hks hm
      subst ev edp erk ew ei
      have F := fun j hj => (hbr.cell (p := ⟨g0, k * 12 + j, none⟩) l1).trans (f j hj)
      have p0 := F 0 (by omega); have p1 := F 1 (by omega); have p2 := F 2 (by omega); have p3 := F 3 (by omega); have p4 := F 4 (by omega); have p5 := F 5 (by omega)
      have p6 := F 6 (by omega); have p7 := F 7 (by omega); have p8 := F 8 (by omega); have p9 := F 9 (by omega); have p10 := F 10 (by omega); have p11 := F 11 (by omega)
      simp only [ndCells, Nat.add_zero] at p0 p1 p2 p3 p4 p5 p6 p7 p8 p9 p10 p11
      have dD := (hbr.cell (p := ⟨hb, 2, none⟩) l0).trans hD
      have hdp := fun W => deep_c v hv1 (by omega) W
      have hor := fun W => order_c v hv1 (by omega) W
      replace hdp : Hid _ := hdp
      replace hor : Hid _ := hor
      have hfd := fun u => HF.out (wr.alloc (.cells #[I v, I (Nat.log2 v), I (rank v), .bool inner, .bool sh, I ins, I tog, I wid, .slice w1 w2 w3, I pu, I ge, .slice i1 i2 i3] 49)) (hbr.alloc hbr.size _) u
      replace hfd : Hid _ := hfd
      replace hks : Hid _ := hks
      replace hm : Hid _ := hm
      have lgr : g0 < wr.heap.size := Nat.lt_of_lt_of_le lg0 hbr.size
      have lhr : hb < wr.heap.size := Nat.lt_of_lt_of_le l0 hbr.size
      clear F f e1 HN HE HK HM HV HR HML HMA hr0
      have hv64 : v < 64 := by omega
      have b1 : decide ((v : Int) < 1) = false := decide_eq_false (by omega)
      have b2 : decide (wrap64 (2 * 2 ^ D) ≤ (v : Int)) = false := by rw [HSH.out]; exact decide_eq_false (by omega)
      have hcell : k = 0 ∨ ∃ (k' : Nat) (pv : Int), k = k' + 1 ∧ decide ((v : Int) ≤ pv) = false ∧ wr.cell? ⟨g0, k' * 12, none⟩ = some (I pv) := by
        rcases hprev with e | ⟨k', pv, e, hpv, hcp⟩
        · exact Or.inl e
        · exact Or.inr ⟨k', pv, e, decide_eq_false (by omega), (hbr.cell (p := ⟨g0, k' * 12, none⟩) lg0).trans hcp⟩
      clear hprev hvD
      generalize Nat.log2 v = lg at *
      generalize rank v = rv at *
      replace hcell : Hid _ := hcell
      go_wp2_with fail
      go_cut [42] (fun s42 wx => s42 = .bool false ∧ ∃ nq, wx = (wr.alloc (.cells #[I v, I lg, I rv, .bool inner, .bool sh, I ins, I tog, I wid, .slice w1 w2 w3, I pu, I ge, .slice i1 i2 i3] 49)).drewN nq)
      case first =>
        rcases hcell.out with rfl | ⟨k', pv, rfl, hpv, hcp⟩
        · go_quiet (fail)
          go_wp2_with fail
          go_meet
          exact ⟨rfl, _, rfl⟩
        · have b0 : decide ((0 : Int) < ((k' + 1 : Nat) : Int)) = true := decide_eq_true (by omega)
          go_quiet (fail)
          go_wp2_with fail
          go_meet
          exact ⟨rfl, _, rfl⟩
      case rest =>
        obtain ⟨rfl, nq, rfl⟩ := hcut
        have hnb : ((wr.alloc (.cells #[I v, I lg, I rv, .bool inner, .bool sh, I ins, I tog, I wid, .slice w1 w2 w3, I pu, I ge, .slice i1 i2 i3] 49)).drewN nq).heap[wr.heap.size]? = some (.cells #[I v, I lg, I rv, .bool inner, .bool sh, I ins, I tog, I wid, .slice w1 w2 w3, I pu, I ge, .slice i1 i2 i3] 49 (0, 0)) := nb_alloc _ _ _
        have hbx : Below w.heap.size w ((wr.alloc (.cells #[I v, I lg, I rv, .bool inner, .bool sh, I ins, I tog, I wid, .slice w1 w2 w3, I pu, I ge, .slice i1 i2 i3] 49)).drewN nq) := Below.drewN' (hbr.alloc hbr.size _) nq
        have dDx := (hbx.cell (p := ⟨hb, 2, none⟩) l0).trans hD
        have hfd2 := fun W (hW : Below w.heap.size w W) u => HF.out W hW u
        replace hfd2 : Hid _ := hfd2
        have lwx : wr.heap.size < ((wr.alloc (.cells #[I v, I lg, I rv, .bool inner, .bool sh, I ins, I tog, I wid, .slice w1 w2 w3, I pu, I ge, .slice i1 i2 i3] 49)).drewN nq).heap.size := (Array.getElem?_eq_some_iff.1 hnb).1
        generalize (wr.alloc (.cells #[I v, I lg, I rv, .bool inner, .bool sh, I ins, I tog, I wid, .slice w1 w2 w3, I pu, I ge, .slice i1 i2 i3] 49)).drewN nq = wx at *
        obtain ⟨nx1, _⟩ := nb_facts hnb
        have lhx : hb < wx.heap.size := cell_lt dDx
        clear hfd p0 p1 p2 p3 p4 p5 p6 p7 p8 p9 p10 p11 hcell dD HF HSH
        go_wp2_with fail
        go_quiet (first | (go_at_call 46; exact Calls.quiet_of_same (hdp.out _)) | (go_at_call 47; exact Calls.quiet_of_same (hor.out _)))
        cases inner
        · have hm0 := hm.out
          simp only [Bool.false_eq_true, if_false, Nat.add_zero] at hm0
          replace hm0 : Hid _ := hm0
          clear hm
          go_wp2_with fail
          go_roundw
          case rel => exact ⟨k + 1, by omega, by rw [hm0.out]; go_num, by go_num, Below.drewN' hbx _⟩
          case measure => simp [intOf]; omega
        · have hm0 := hm.out
          simp only [if_true] at hm0
          obtain ⟨f1, f2⟩ := hks.out rfl
          replace hm0 : Hid _ := hm0
          clear hm hks
          go_wp2_with fail
          refine Calls.mono (hfd2.out _ (Below.drewN' hbx _) _) ?_
          rintro e w9 ⟨rfl, rfl⟩
          go_wp2_with fail
          refine Calls.mono (hfd2.out _ (Below.drewN' hbx _) _) ?_
          rintro e w9 ⟨rfl, rfl⟩
          generalize findN (2 * (v : Int)) (l.map fun y => y.1.num) 0 = fa at *
          generalize findN (2 * (v : Int) + 1) (l.map fun y => y.1.num) 0 = fb at *
          have g1 : decide (fa < 0) = false := decide_eq_false (by omega)
          have g2 : decide (fb < 0) = false := decide_eq_false (by omega)
          clear hfd2
          go_wp2_with fail
          go_roundw
          case rel => exact ⟨k + 1, by omega, by rw [hm0.out]; go_num, by go_num, Below.drewN' hbx _⟩
          case measure => simp [intOf]; omega
    · have ek : k = l.length := by omega
      subst ek
      have hma := HMA.out
      have bl : decide ((l.length : Int) < (l.length : Int)) = false := by simp
      have be : ((1 + 2 * (innN ((l.map fun y => y.1).take l.length) : Int)) == (l.length : Int)) = true := by rw [beq_iff_eq]; omega
      clear HN HE HK HM HV HR HML HMA hr0 hma
      go_wp2
      go_ret
      exact ⟨rfl, hbr⟩

end Go.Proofs.Ytjnmpejcegmkhaa
