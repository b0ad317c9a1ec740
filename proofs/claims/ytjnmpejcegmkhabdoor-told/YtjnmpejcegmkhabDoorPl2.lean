/- The texts of the program's answers: contract of leavesText. No statement of the seat is proved here. Package prismkeep's texts: contract of leaves. No statement of the seat is proved here. Package prismkeep's answer: its contract. No statement of the seat is proved here. The program's reader of texts: contracts of isDigit, skip, readNumber. No statement of the seat is proved here. The program's reader of texts: contracts of readOne, readTwo, readCommand. No statement of the seat is proved here. The program plays a command: contracts of playSpawn and play. No statement of the seat is proved here. -/
import Derived.Test.YtjnmpejcegmkhabDoorTx4
import Derived.Deep.Cut
import Derived.Deep.DeepCutAuto
import Derived.Test.YtjnmpejcegmkhabDoorRefStA
import Derived.Deep.QuietTactic
import Derived.BigQuiet
namespace Go.Proofs.YtjnmpejcegmkhabDoor
open Go.RowKit

theorem lv_take (ls : List ND) (k : Nat) (hk : k < ls.length) : (ls.take (k + 1)).foldl lvS [] = lvS ((ls.take k).foldl lvS []) ls[k] := by
  rw [List.take_succ_eq_append_getElem hk, List.foldl_append]
  rfl

set_option maxHeartbeats 8000000 in
set_option maxRecDepth 100000 in
theorem leavesText_c (tp : Value) (ls : List ND) (hls : ∀ d ∈ ls, NdB d) (h32 : ls.length ≤ 32) {w : World} (h : Tab w)
    (hN : Calls Tryd.prog 13 #[tp] w fun e w' => ∃ x l, e = .returned x ∧ NodesRep w' w.heap.size x l ∧ l.map (fun y => y.1) = ls ∧ Below w.heap.size w w') :
    Calls Tryd.prog 38 #[tp] w fun e w' => e = .returned (S (leavesT ls)) ∧ Below w.heap.size w w' := by
  have HT : Hid (leavesT ls = (ls.take ls.length).foldl lvS []) := by show _ = _; rw [List.take_length]; rfl
  have HLS : Hid (∀ d ∈ ls, NdB d) := hls
  have HTab : Hid (Tab w) := h
  generalize leavesT ls = R at *
  replace hN : Hid _ := hN
  have hSA := S_app
  clear hls h
  go_enter Tryd.func38, Tryd.ntmps38
  go_wp2_with fail
  refine Calls.mono hN.out ?_
  rintro e w1 ⟨x, l, rfl, hr, hl, hb1⟩
  obtain ⟨ao, cap, e1, n1, n2, n3, _⟩ := ownsRow_cells hr.row
  have hlen : l.length = ls.length := by rw [← hl]; simp
  have HA : Hid (∀ k, (hk : k < l.length) → ∃ g, (∀ a n c, x = .slice a n c → a = some ⟨g, 0, none⟩) ∧ g < w1.heap.size ∧ ∀ j, j < 12 → w1.cell? ⟨g, k * 12 + j, none⟩ = (ndCells (l[k]).1 (l[k]).2.1 (l[k]).2.2)[j]?) := fun k hk => nodes_at hr k hk
  have HI : Hid (∀ k, (hk : k < l.length) → ∃ hk' : k < ls.length, (l[k]).1 = ls[k]) := by
    intro k hk
    subst hl
    exact ⟨by simpa using hk, by simp⟩
  have HIt : Hid (∀ k, (hk : k < l.length) → w1.ownsRow w.heap.size 3 1 (l[k]).2.2 (l[k]).1.items.length ((l[k]).1.items.map I)) := fun k hk => hr.items _ (List.getElem_mem hk)
  subst e1
  unfold maxLen at n2 n3
  rw [hlen] at n1 n2 ⊢
  have HTab1 : Hid (Tab w1) := HTab.out.below hb1
  replace hb1 : Hid _ := hb1
  clear hr hN hl HTab
  go_wp2_with fail
  go_loopw [4, 5] (fun tt ii wr => ∃ (k : Nat) (t : List UInt8), k ≤ ls.length ∧ tt = S t ∧ ii = I k ∧ Hid (t = (ls.take k).foldl lvS []) ∧ t.length ≤ 300001 * k ∧ Hid (Below w1.heap.size w1 wr)) (fun _ ii _ => ls.length - (intOf ii).toNat)
  case atStart => exact ⟨0, [], Nat.zero_le _, rfl, rfl, rfl, by simp, Below.refl _ _⟩
  case round =>
    obtain ⟨k, t, hk, rfl, rfl, ht, htl, hbr⟩ := hrel
    by_cases hlt : k < ls.length
    · have bl : decide ((k : Int) < (ls.length : Int)) = true := by simp; omega
      obtain ⟨g, hg, lg, f⟩ := HA.out k (by omega)
      obtain ⟨_, hke⟩ := HI.out k (by omega)
      have hit := HIt.out k (by omega)
      have hnb := HLS.out ls[k] (List.getElem_mem hlt)
      have HTK : Hid ((ls.take (k + 1)).foldl lvS [] = lvS ((ls.take k).foldl lvS []) ls[k]) := lv_take ls k hlt
      rw [← ht.out] at HTK
      have hlv := lvS_len hnb t
      obtain rfl := hg _ _ _ rfl
      generalize l[k] = y at *
      obtain ⟨d, wv, iv⟩ := y
      simp only at hke f hit
      generalize ls[k] = d' at *
      subst hke
      have F := fun j hj => (hbr.out.cell (p := ⟨g, k * 12 + j, none⟩) lg).trans (f j hj)
      have p0 : wr.cell? ⟨g, k * 12, none⟩ = some (I d.num) := F 0 (by omega)
      have p1 : wr.cell? ⟨g, k * 12 + 1, none⟩ = some (I d.depth) := F 1 (by omega)
      have p2 : wr.cell? ⟨g, k * 12 + 2, none⟩ = some (I d.rank) := F 2 (by omega)
      have p3 : wr.cell? ⟨g, k * 12 + 3, none⟩ = some (.bool d.inner) := F 3 (by omega)
      have p4 : wr.cell? ⟨g, k * 12 + 4, none⟩ = some (.bool d.shut) := F 4 (by omega)
      have p5 : wr.cell? ⟨g, k * 12 + 5, none⟩ = some (I d.inside) := F 5 (by omega)
      have p6 : wr.cell? ⟨g, k * 12 + 6, none⟩ = some (I d.toggle) := F 6 (by omega)
      have p7 : wr.cell? ⟨g, k * 12 + 7, none⟩ = some (I d.width) := F 7 (by omega)
      have p8 : wr.cell? ⟨g, k * 12 + 8, none⟩ = some (wv) := F 8 (by omega)
      have p9 : wr.cell? ⟨g, k * 12 + 9, none⟩ = some (I d.puts) := F 9 (by omega)
      have p10 : wr.cell? ⟨g, k * 12 + 10, none⟩ = some (I d.gets) := F 10 (by omega)
      have p11 : wr.cell? ⟨g, k * 12 + 11, none⟩ = some (iv) := F 11 (by omega)
      clear F f
      have hlf := leafText_c d wv iv hnb (HTab1.out.below hbr.out) (ownsRow_below hit hbr.out (Nat.le_refl _))
      have hll := hnb.leaf
      unfold ndCells at hlf
      unfold lvS at HTK hlv
      cases hin : d.inner with
      | true =>
        rw [hin, if_pos rfl] at HTK
        rw [hin] at p3
        clear hlf p0 p1 p2 p4 p5 p6 p7 p8 p9 p10 p11 hlv
        go_wp2
        refine ⟨⟨k + 1, t, by omega, rfl, rfl, HTK.out.symm, by omega, hbr⟩, ?_⟩
        show ls.length - ((k : Int) + 1).toNat < ls.length - (k : Int).toNat
        omega
      | false =>
        rw [hin, if_neg (by simp)] at HTK hlv
        rw [hin] at p3 hlf
        replace hlf : Hid _ := hlf
        generalize leafT d = a at *
        by_cases hte : t = []
        · subst hte
          rw [if_pos rfl] at HTK hlv
          have q1 : ¬ 9223372036854775807 < a.length := by omega
          clear hnb hit hin
          go_wp2_with fail
          refine Calls.mono hlf.out ?_
          rintro e w5 ⟨rfl, hb5⟩
          replace hb5 : Hid _ := hb5
          clear hlf p0 p1 p2 p3 p4 p5 p6 p7 p8 p9 p10 p11
          go_wp2
          refine ⟨⟨k + 1, a, by omega, rfl, rfl, HTK.out.symm, by simp at hlv; omega, hbr.out.trans (hb5.out.mono hbr.out.size)⟩, ?_⟩
          show ls.length - ((k : Int) + 1).toNat < ls.length - (k : Int).toNat
          omega
        · have bt : t.isEmpty = false := by simp [hte]
          rw [if_neg hte] at HTK hlv
          have q1 : ¬ 9223372036854775807 < t.length + 1 := by omega
          have q2 : ¬ 9223372036854775807 < t.length + 1 + a.length := by omega
          clear hnb hit hin hte
          go_wp2_with fail
          refine Calls.mono hlf.out ?_
          rintro e w5 ⟨rfl, hb5⟩
          replace hb5 : Hid _ := hb5
          clear hlf p0 p1 p2 p3 p4 p5 p6 p7 p8 p9 p10 p11
          go_wp2
          refine ⟨⟨k + 1, t ++ 124 :: a, by omega, rfl, rfl, ?_, by simp at hlv ⊢; omega, hbr.out.trans (hb5.out.mono hbr.out.size)⟩, ?_⟩
          · show _ = _
            refine Eq.trans ?_ HTK.out.symm
            simp
          · show ls.length - ((k : Int) + 1).toNat < ls.length - (k : Int).toNat
            omega
    · have ek : k = ls.length := by omega
      have bl : decide ((k : Int) < (ls.length : Int)) = false := by simp; omega
      have HF : Hid (t = R) := by
        show _ = _
        rw [ht.out, HT.out, ek]
      go_wp2
      go_ret
      rw [← HF.out]
      exact ⟨rfl, hb1.out.trans (hbr.out.mono hb1.out.size)⟩

end Go.Proofs.YtjnmpejcegmkhabDoor

namespace Go.Proofs.YtjnmpejcegmkhabDoor
open Go.RowKit

/-- What was there is there, and the table lies. -/
structure AtW (w W : World) : Prop where
  below : Below w.heap.size w W
  tab : Tab W
theorem AtW.go {w W W' : World} (h : AtW w W) (hb : Below W.heap.size W W') : AtW w W' := ⟨h.below.trans (hb.mono h.below.size), h.tab.below hb⟩
theorem AtW.drew {w W : World} (h : AtW w W) : AtW w W.drew := h.go (Below.drewN' (Below.refl _ _) 1)
theorem AtW.itoa {w W : World} (h : AtW w W) (n : Int) (hn : I6 n) : Calls Tryd.prog 11 #[.int .i64 n] W fun e w' => e = .returned (S (Lib.itoa n)) ∧ AtW w w' := by
  refine (itoa_c n hn.1 hn.2 h.tab).mono ?_
  rintro e w' ⟨rfl, hb⟩
  exact ⟨rfl, h.go hb⟩

set_option maxHeartbeats 8000000 in
set_option maxRecDepth 100000 in
theorem kleaves_c {w : World} {b : Nat} {x : Value} {l : List (ND × Value × Value)} (hr : NodesRep w b x l) (ls : List ND) (hl : l.map (fun y => y.1) = ls) (hls : ∀ d ∈ ls, NdB d) (h32 : ls.length ≤ 32) (h : Tab w) :
    Calls Tryd.prog 14 #[x] w fun e w' => e = .returned (S (leavesT ls)) ∧ Below w.heap.size w w' := by
  have HT : Hid (leavesT ls = (ls.take ls.length).foldl lvS []) := by show _ = _; rw [List.take_length]; rfl
  have HLS : Hid (∀ d ∈ ls, NdB d) := hls
  have H0 : Hid (AtW w w) := ⟨Below.refl _ _, h⟩
  generalize leavesT ls = R at *
  have hSA := S_app
  obtain ⟨ao, cap, e1, n1, n2, n3, _⟩ := ownsRow_cells hr.row
  have hlen : l.length = ls.length := by rw [← hl]; simp
  have HA : Hid (∀ k, (hk : k < l.length) → ∃ g, (∀ a n c, x = .slice a n c → a = some ⟨g, 0, none⟩) ∧ g < w.heap.size ∧ ∀ j, j < 12 → w.cell? ⟨g, k * 12 + j, none⟩ = (ndCells (l[k]).1 (l[k]).2.1 (l[k]).2.2)[j]?) := fun k hk => nodes_at hr k hk
  have HI : Hid (∀ k, (hk : k < l.length) → ∃ hk' : k < ls.length, (l[k]).1 = ls[k]) := by
    intro k hk
    subst hl
    exact ⟨by simpa using hk, by simp⟩
  have HIt : Hid (∀ k, (hk : k < l.length) → w.ownsRow b 3 1 (l[k]).2.2 (l[k]).1.items.length ((l[k]).1.items.map I)) := fun k hk => hr.items _ (List.getElem_mem hk)
  subst e1
  unfold maxLen at n2 n3
  rw [hlen] at n1 n2 ⊢
  clear hls h hr hl
  go_enter Tryd.func14, Tryd.ntmps14
  go_wp2_with fail
  go_loopw [3, 4, 5] (fun tt ii _ wr => ∃ (k : Nat) (t : List UInt8), k ≤ ls.length ∧ tt = S t ∧ ii = I k ∧ Hid (t = (ls.take k).foldl lvS []) ∧ t.length ≤ 300001 * k ∧ Hid (AtW w wr)) (fun _ ii _ _ => ls.length - (intOf ii).toNat)
  case atStart => exact ⟨0, [], Nat.zero_le _, rfl, rfl, rfl, by simp, H0⟩
  case round =>
    obtain ⟨k, t, hk, rfl, rfl, ht, htl, hbr⟩ := hrel
    by_cases hlt : k < ls.length
    · have bl : decide ((k : Int) < (ls.length : Int)) = true := by simp; omega
      obtain ⟨g, hg, lg, f⟩ := HA.out k (by omega)
      obtain ⟨_, hke⟩ := HI.out k (by omega)
      have hit := HIt.out k (by omega)
      have hnb := HLS.out ls[k] (List.getElem_mem hlt)
      have HTK : Hid ((ls.take (k + 1)).foldl lvS [] = lvS ((ls.take k).foldl lvS []) ls[k]) := lv_take ls k hlt
      rw [← ht.out] at HTK
      have hlv := lvS_len hnb t
      obtain rfl := hg _ _ _ rfl
      generalize l[k] = y at *
      obtain ⟨d, wv, iv⟩ := y
      simp only at hke f hit
      generalize ls[k] = d' at *
      subst hke
      have F := fun j hj => (hbr.out.below.cell (p := ⟨g, k * 12 + j, none⟩) lg).trans (f j hj)
      have p0 : wr.cell? ⟨g, k * 12, none⟩ = some (I d.num) := F 0 (by omega)
      have p3 : wr.cell? ⟨g, k * 12 + 3, none⟩ = some (.bool d.inner) := F 3 (by omega)
      have p9 : wr.cell? ⟨g, k * 12 + 9, none⟩ = some (I d.puts) := F 9 (by omega)
      have p10 : wr.cell? ⟨g, k * 12 + 10, none⟩ = some (I d.gets) := F 10 (by omega)
      have p11 : wr.cell? ⟨g, k * 12 + 11, none⟩ = some iv := F 11 (by omega)
      have HF : Hid (∀ W, AtW w W → (W.cell? ⟨g, k * 12, none⟩ = some (I d.num) ∧ W.cell? ⟨g, k * 12 + 9, none⟩ = some (I d.puts) ∧ W.cell? ⟨g, k * 12 + 10, none⟩ = some (I d.gets)) ∧ Hid (AtW w W)) := by
        intro W hW
        have F' := fun j hj => (hW.below.cell (p := ⟨g, k * 12 + j, none⟩) lg).trans (f j hj)
        exact ⟨⟨F' 0 (by omega), F' 9 (by omega), F' 10 (by omega)⟩, hW⟩
      have HF11 : Hid (∀ W, AtW w W → W.cell? ⟨g, k * 12 + 11, none⟩ = some iv) := fun W hW => (hW.below.cell (p := ⟨g, k * 12 + 11, none⟩) lg).trans (f 11 (by omega))
      clear F f
      unfold lvS at HTK hlv
      cases hin : d.inner with
      | true =>
        rw [hin, if_pos rfl] at HTK
        rw [hin] at p3
        clear p0 p9 p10 p11 hlv
        go_wp2
        refine ⟨⟨k + 1, t, by omega, rfl, rfl, HTK.out.symm, by omega, hbr⟩, ?_⟩
        show ls.length - ((k : Int) + 1).toNat < ls.length - (k : Int).toNat
        omega
      | false =>
        rw [hin, if_neg (by simp)] at HTK hlv
        rw [hin] at p3
        obtain ⟨ao2, cap2, rfl, m1, m2, m3, hints⟩ := ints_open hit
        unfold maxLen at m2 m3
        have HL : Hid (leafT d = headT d ++ itemsT d.items) := rfl
        have HH : Hid (headT d = Lib.itoa d.num ++ 58 :: (Lib.itoa d.puts ++ 44 :: Lib.itoa d.gets)) := rfl
        have l1 := hnb.num.len
        have l2 := hnb.puts.len
        have l3 := hnb.gets.len
        have hm := hnb.many
        have HNI : Hid (∀ x ∈ d.items, InB x) := hnb.items
        have HC1 : Hid (∀ W, Hid (AtW w W) → Calls Tryd.prog 11 #[.int .i64 d.num] W fun e w' => e = .returned (S (Lib.itoa d.num)) ∧ AtW w w') := fun W hW => hW.out.itoa _ hnb.num.i6
        have HC2 : Hid (∀ W, Hid (AtW w W) → Calls Tryd.prog 11 #[.int .i64 d.puts] W fun e w' => e = .returned (S (Lib.itoa d.puts)) ∧ AtW w w') := fun W hW => hW.out.itoa _ hnb.puts.i6
        have HC3 : Hid (∀ W, Hid (AtW w W) → Calls Tryd.prog 11 #[.int .i64 d.gets] W fun e w' => e = .returned (S (Lib.itoa d.gets)) ∧ AtW w w') := fun W hW => hW.out.itoa _ hnb.gets.i6
        have HIA : Hid (IntsAt w ao2 d.items) := hints
        generalize leafT d = lt at *
        generalize headT d = hd0 at *
        generalize d.num = p1 at *
        generalize d.puts = p2 at *
        generalize d.gets = q3' at *
        generalize d.items = its at *
        generalize Lib.itoa p1 = a1 at *
        generalize Lib.itoa p2 = a2 at *
        generalize Lib.itoa q3' = a3 at *
        clear hnb hit hints
        generalize hu : (if t = [] then [] else t ++ [124]) = u at *
        have hul : u.length ≤ t.length + 1 := by
          rw [← hu]
          split <;> simp
        replace hu : Hid _ := hu
        obtain ⟨bE, bt⟩ : ∃ y, t.isEmpty = y := ⟨_, rfl⟩
        go_upto_if 18 with fail
        go_cut [3] (fun ss wx => ss = S u ∧ wx = wr)
        case first =>
          cases bE with
          | true =>
            have hte : t = [] := by simpa using bt
            have hu' := hu.out
            rw [if_pos hte] at hu'
            subst hte hu'
            clear hu
            go_wp2_with fail
            go_meet
            exact ⟨rfl, rfl⟩
          | false =>
            have hte : t ≠ [] := by simpa using bt
            have hu' := hu.out
            rw [if_neg hte] at hu'
            have q1 : ¬ 9223372036854775807 < t.length + 1 := by omega
            have HU : Hid (u = t ++ [124]) := hu'.symm
            clear hu' hu hte
            go_wp2_with fail
            go_meet
            exact ⟨by rw [HU.out], rfl⟩
        case rest =>
          obtain ⟨rfl, rfl⟩ := hcut
          have q0 : ¬ 9223372036854775807 < u.length + a1.length := by omega
          have q1 : ¬ 9223372036854775807 < u.length + a1.length + 1 := by omega
          have q1' : ¬ 9223372036854775807 < u.length + (a1.length + 1) := by omega
          have q2 : ¬ 9223372036854775807 < u.length + (a1.length + 1) + a2.length := by omega
          have q3 : ¬ 9223372036854775807 < u.length + (a1.length + (a2.length + 1)) + 1 := by omega
          have q4 : ¬ 9223372036854775807 < u.length + (a1.length + (a2.length + 1 + 1)) + a3.length := by omega
          go_wp2_with fail
          go_region_held3 (fun W => (W.cell? ⟨g, k * 12, none⟩ = some (I p1) ∧ W.cell? ⟨g, k * 12 + 9, none⟩ = some (I p2) ∧ W.cell? ⟨g, k * 12 + 10, none⟩ = some (I q3')) ∧ Hid (AtW w W)) (first | exact HF.out _ hbr.out.drew | exact HF.out _ (by assumption)) (first | (go_at_call_of 11 p1; refine (HC1.out _ (And.right (by assumption))).mono ?_; rintro e w' ⟨rfl, hbx⟩) | (go_at_call_of 11 p2; refine (HC2.out _ (And.right (by assumption))).mono ?_; rintro e w' ⟨rfl, hbx⟩) | (go_at_call_of 11 q3'; refine (HC3.out _ (And.right (by assumption))).mono ?_; rintro e w' ⟨rfl, hbx⟩))
          go_wp2_with fail
          have HX : Hid (AtW w w') := hbx
          have hh : hd0.length ≤ 62 := by rw [HH.out]; simp; omega
          clear HC1 HC2 HC3 HF q0 q1 q1' q2 q3 q4 p0 p3 p9 p10 p11 bt
          go_loopw [3, 5] (fun tt kk wi => ∃ (m : Nat) (v : List UInt8), m ≤ its.length ∧ tt = S v ∧ kk = I m ∧ Hid (v = u ++ (hd0 ++ itemsT (its.take m))) ∧ Hid (AtW w wi)) (fun _ kk _ => its.length - (intOf kk).toNat)
          case atStart => exact ⟨0, _, Nat.zero_le _, rfl, rfl, by show _ = _; simp [itemsT, HH.out], HX⟩
          case round =>
            obtain ⟨m, v, hmk, rfl, rfl, hv, hbi⟩ := hrel
            have p11 := HF11.out wr hbi.out
            have hvl : v.length ≤ u.length + 62 + 21 * m := by
              have h3 := itemsT_len (l := its.take m) fun x hx => HNI.out x (List.mem_of_mem_take hx)
              have h4 : (its.take m).length = m := by simp; omega
              rw [hv.out, List.length_append, List.length_append]
              omega
            by_cases hlm : m < its.length
            · have bm : decide ((m : Int) < (its.length : Int)) = true := by simp; omega
              obtain ⟨g2, rfl, hc⟩ := (HIA.out.below hbi.out.below).at' m hlm
              have hin' := HNI.out its[m] (List.getElem_mem hlm)
              have li := hin'.len
              have hcall := hbi.out.itoa its[m] hin'.i6
              replace hcall : Hid _ := hcall
              have HTI : Hid (itemsT (its.take (m + 1)) = itemsT (its.take m) ++ 44 :: Lib.itoa its[m]) := itemsT_take its m hlm
              generalize Lib.itoa its[m] = a at *
              generalize its[m] = x at *
              have q1 : ¬ 9223372036854775807 < v.length + 1 := by omega
              have q2 : ¬ 9223372036854775807 < v.length + 1 + a.length := by omega
              clear hin'
              go_wp2_with fail
              refine Calls.mono hcall.out ?_
              rintro e w5 ⟨rfl, hb5⟩
              replace hb5 : Hid _ := hb5
              clear hcall hbi hc p11
              go_wp2
              refine ⟨⟨m + 1, _, by omega, rfl, rfl, ?_, hb5⟩, ?_⟩
              · show _ = _
                rw [HTI.out, hv.out]
                simp
              · show its.length - ((m : Int) + 1).toNat < its.length - (m : Int).toNat
                omega
            · have em : m = its.length := by omega
              have bm : decide ((m : Int) < (its.length : Int)) = false := by simp; omega
              have HV : Hid (v = u ++ lt) := by
                show _ = _
                rw [hv.out, HL.out, em, List.take_length]
              go_wp2
              refine ⟨⟨k + 1, v, by omega, rfl, rfl, ?_, ?_, hbi⟩, ?_⟩
              · show _ = _
                rw [HV.out]
                exact HTK.out.symm
              · rw [HV.out]
                omega
              · show ls.length - ((k : Int) + 1).toNat < ls.length - (k : Int).toNat
                omega
    · have ek : k = ls.length := by omega
      have bl : decide ((k : Int) < (ls.length : Int)) = false := by simp; omega
      have HFF : Hid (t = R) := by
        show _ = _
        rw [ht.out, HT.out, ek]
      go_wp2
      go_ret
      rw [← HFF.out]
      exact ⟨rfl, hbr.out.below⟩

end Go.Proofs.YtjnmpejcegmkhabDoor

namespace Go.Proofs.YtjnmpejcegmkhabDoor
open Go.RowKit

set_option maxHeartbeats 4000000 in
theorem twanted_c (k a b : Int) (o : Op3) (hk : (k = 1 ∧ o = ⟨0, 0, 0⟩) ∨ (k = 2 ∧ o = ⟨1, a, 0⟩) ∨ (k = 3 ∧ o = ⟨2, 0, 0⟩) ∨ (k = 4 ∧ o = ⟨3, 0, a⟩) ∨ (k = 5 ∧ o = ⟨4, 0, a⟩)) (w : World) : Calls Tryd.prog 19 #[.agg #[I k, I a, I b]] w fun e w' => e = .returned (.tuple #[opV o, .bool true]) ∧ Below w.heap.size w w' := by
  unfold opV
  rcases hk with ⟨rfl, rfl⟩ | ⟨rfl, rfl⟩ | ⟨rfl, rfl⟩ | ⟨rfl, rfl⟩ | ⟨rfl, rfl⟩
  · go_enter Tryd.func19, Tryd.ntmps19
    go_wp2
    exact bodyPost_ret (v := .tuple #[.agg #[I 0, I 0, I 0], .bool true]) (by simp [results, Tryd.results19, go_sem]) rfl ⟨rfl, ((Below.refl _ _).alloc (Nat.le_refl _) _).alloc (by simp) _⟩
  · go_enter Tryd.func19, Tryd.ntmps19
    go_wp2
    exact bodyPost_ret (v := .tuple #[.agg #[I 1, I a, I 0], .bool true]) (by simp [results, Tryd.results19, go_sem]) rfl ⟨rfl, ((Below.refl _ _).alloc (Nat.le_refl _) _).alloc (by simp) _⟩
  · go_enter Tryd.func19, Tryd.ntmps19
    go_wp2
    exact bodyPost_ret (v := .tuple #[.agg #[I 2, I 0, I 0], .bool true]) (by simp [results, Tryd.results19, go_sem]) rfl ⟨rfl, ((Below.refl _ _).alloc (Nat.le_refl _) _).alloc (by simp) _⟩
  · go_enter Tryd.func19, Tryd.ntmps19
    go_wp2
    exact bodyPost_ret (v := .tuple #[.agg #[I 3, I 0, I a], .bool true]) (by simp [results, Tryd.results19, go_sem]) rfl ⟨rfl, ((Below.refl _ _).alloc (Nat.le_refl _) _).alloc (by simp) _⟩
  · go_enter Tryd.func19, Tryd.ntmps19
    go_wp2
    exact bodyPost_ret (v := .tuple #[.agg #[I 4, I 0, I a], .bool true]) (by simp [results, Tryd.results19, go_sem]) rfl ⟨rfl, ((Below.refl _ _).alloc (Nat.le_refl _) _).alloc (by simp) _⟩

set_option maxHeartbeats 4000000 in
theorem answer_1 {w : World} {B : Nat} {c : Conf} {L : Lay} {P : PLay} (h : TSt w B c L P) (a b : Int) :
    Calls Tryd.prog 6 #[.pointer (some ⟨P.tb, 0, none⟩), .agg #[I 1, I a, I b]] w fun e w' => e = .returned (S (ansOf c L (cmOf 1 a b)).1) ∧ TRet B c P (ansOf c L (cmOf 1 a b)).2 w w' := by
  have e : ansOf c L (cmOf 1 a b) = (numT (spN c L (⟨0, 0, 0⟩ : Op3)).1 (spN c L (⟨0, 0, 0⟩ : Op3)).2.1, (spN c L (⟨0, 0, 0⟩ : Op3)).2.2) := rfl
  have h0 : Hid (∀ W, Calls Tryd.prog 19 #[.agg #[I 1, I a, I b]] W fun e w' => e = .returned (.tuple #[.agg #[I (Op3.kind (⟨0, 0, 0⟩ : Op3)), I (Op3.val (⟨0, 0, 0⟩ : Op3)), I (Op3.node (⟨0, 0, 0⟩ : Op3))], .bool true]) ∧ Below W.heap.size W w') := fun W => twanted_c 1 a b (⟨0, 0, 0⟩ : Op3) (by simp) W
  have h1 : Hid (∀ W, Below w.heap.size w W → Calls Tryd.prog 20 #[.pointer (some ⟨P.tb, 0, none⟩), .agg #[I (Op3.kind (⟨0, 0, 0⟩ : Op3)), I (Op3.val (⟨0, 0, 0⟩ : Op3)), I (Op3.node (⟨0, 0, 0⟩ : Op3))]] W fun e w' => e = .returned (.tuple #[I (spN c L (⟨0, 0, 0⟩ : Op3)).1, I (spN c L (⟨0, 0, 0⟩ : Op3)).2.1]) ∧ TRet B c P (spN c L (⟨0, 0, 0⟩ : Op3)).2.2 W w') := fun W hW => tspawn_c (h.below hW) (⟨0, 0, 0⟩ : Op3) (inbN (k := 0) (by omega) (by omega))
  obtain ⟨i1, i2⟩ := spN_in h.rel (⟨0, 0, 0⟩ : Op3)
  have h2 : Hid (∀ W, Tab W → Calls Tryd.prog 16 #[I (spN c L (⟨0, 0, 0⟩ : Op3)).1, I (spN c L (⟨0, 0, 0⟩ : Op3)).2.1] W fun x w' => x = .returned (S (numT (spN c L (⟨0, 0, 0⟩ : Op3)).1 (spN c L (⟨0, 0, 0⟩ : Op3)).2.1)) ∧ Below W.heap.size W w') := fun W hW => knumber_c _ _ i1.i6 i2.i6 hW
  rw [e]
  dsimp only at h0 h1 ⊢
  obtain ⟨L', hL'⟩ : ∃ L', L' = (spN c L (⟨0, 0, 0⟩ : Op3)).2.2 := ⟨_, rfl⟩
  rw [← hL'] at h1 ⊢
  generalize numT (spN c L (⟨0, 0, 0⟩ : Op3)).1 (spN c L (⟨0, 0, 0⟩ : Op3)).2.1 = t at *
  generalize (spN c L (⟨0, 0, 0⟩ : Op3)).1 = n at *
  generalize (spN c L (⟨0, 0, 0⟩ : Op3)).2.1 = er at *
  have hB0 : Hid (Below w.heap.size w (w.alloc (.cells #[I 1, I a, I b] 30))) := (Below.refl _ _).alloc (Nat.le_refl _) _
  obtain ⟨f1, _⟩ := nb_facts (nb_alloc w #[I 1, I a, I b] 30)
  have c0 := f1 0
  have c1 := f1 1
  have c2 := f1 2
  simp at c0 c1 c2
  clear h hL' e f1 i1 i2
  go_enter Tryd.func6, Tryd.ntmps6
  go_wp2_with fail
  refine Calls.mono (h0.out _) ?_
  rintro e w1 ⟨rfl, hb1⟩
  have hb2 : Below w.heap.size w w1 := hB0.out.trans (hb1.mono hB0.out.size)
  clear h0 hb1 c0 c1 c2
  go_wp2_with fail
  have hb3 : Below w.heap.size w (w1.alloc (.cells #[I 0, I 0, I 0] 58)) := hb2.alloc hb2.size _
  refine Calls.mono (h1.out _ hb3) ?_
  rintro e w2 ⟨rfl, hr⟩
  have h3 := h2.out w2 hr.tab
  replace h3 : Hid _ := h3
  replace hr : Hid _ := hr
  clear h1 h2
  go_wp2_with fail
  refine Calls.mono h3.out ?_
  rintro e w3 ⟨rfl, hb⟩
  go_wp2
  go_ret
  exact ⟨rfl, (TRet.before hb3 hr.out).then hb⟩

set_option maxHeartbeats 4000000 in
theorem answer_2 {w : World} {B : Nat} {c : Conf} {L : Lay} {P : PLay} (h : TSt w B c L P) (a b : Int) (ha : InB a) :
    Calls Tryd.prog 6 #[.pointer (some ⟨P.tb, 0, none⟩), .agg #[I 2, I a, I b]] w fun e w' => e = .returned (S (ansOf c L (cmOf 2 a b)).1) ∧ TRet B c P (ansOf c L (cmOf 2 a b)).2 w w' := by
  have e : ansOf c L (cmOf 2 a b) = (numT (spN c L (⟨1, a, 0⟩ : Op3)).1 (spN c L (⟨1, a, 0⟩ : Op3)).2.1, (spN c L (⟨1, a, 0⟩ : Op3)).2.2) := rfl
  have h0 : Hid (∀ W, Calls Tryd.prog 19 #[.agg #[I 2, I a, I b]] W fun e w' => e = .returned (.tuple #[.agg #[I (Op3.kind (⟨1, a, 0⟩ : Op3)), I (Op3.val (⟨1, a, 0⟩ : Op3)), I (Op3.node (⟨1, a, 0⟩ : Op3))], .bool true]) ∧ Below W.heap.size W w') := fun W => twanted_c 2 a b (⟨1, a, 0⟩ : Op3) (by simp) W
  have h1 : Hid (∀ W, Below w.heap.size w W → Calls Tryd.prog 20 #[.pointer (some ⟨P.tb, 0, none⟩), .agg #[I (Op3.kind (⟨1, a, 0⟩ : Op3)), I (Op3.val (⟨1, a, 0⟩ : Op3)), I (Op3.node (⟨1, a, 0⟩ : Op3))]] W fun e w' => e = .returned (.tuple #[I (spN c L (⟨1, a, 0⟩ : Op3)).1, I (spN c L (⟨1, a, 0⟩ : Op3)).2.1]) ∧ TRet B c P (spN c L (⟨1, a, 0⟩ : Op3)).2.2 W w') := fun W hW => tspawn_c (h.below hW) (⟨1, a, 0⟩ : Op3) ha
  obtain ⟨i1, i2⟩ := spN_in h.rel (⟨1, a, 0⟩ : Op3)
  have h2 : Hid (∀ W, Tab W → Calls Tryd.prog 16 #[I (spN c L (⟨1, a, 0⟩ : Op3)).1, I (spN c L (⟨1, a, 0⟩ : Op3)).2.1] W fun x w' => x = .returned (S (numT (spN c L (⟨1, a, 0⟩ : Op3)).1 (spN c L (⟨1, a, 0⟩ : Op3)).2.1)) ∧ Below W.heap.size W w') := fun W hW => knumber_c _ _ i1.i6 i2.i6 hW
  rw [e]
  dsimp only at h0 h1 ⊢
  obtain ⟨L', hL'⟩ : ∃ L', L' = (spN c L (⟨1, a, 0⟩ : Op3)).2.2 := ⟨_, rfl⟩
  rw [← hL'] at h1 ⊢
  generalize numT (spN c L (⟨1, a, 0⟩ : Op3)).1 (spN c L (⟨1, a, 0⟩ : Op3)).2.1 = t at *
  generalize (spN c L (⟨1, a, 0⟩ : Op3)).1 = n at *
  generalize (spN c L (⟨1, a, 0⟩ : Op3)).2.1 = er at *
  have hB0 : Hid (Below w.heap.size w (w.alloc (.cells #[I 2, I a, I b] 30))) := (Below.refl _ _).alloc (Nat.le_refl _) _
  obtain ⟨f1, _⟩ := nb_facts (nb_alloc w #[I 2, I a, I b] 30)
  have c0 := f1 0
  have c1 := f1 1
  have c2 := f1 2
  simp at c0 c1 c2
  clear h hL' e f1 i1 i2
  go_enter Tryd.func6, Tryd.ntmps6
  go_wp2_with fail
  refine Calls.mono (h0.out _) ?_
  rintro e w1 ⟨rfl, hb1⟩
  have hb2 : Below w.heap.size w w1 := hB0.out.trans (hb1.mono hB0.out.size)
  clear h0 hb1 c0 c1 c2
  go_wp2_with fail
  have hb3 : Below w.heap.size w (w1.alloc (.cells #[I 1, I a, I 0] 58)) := hb2.alloc hb2.size _
  refine Calls.mono (h1.out _ hb3) ?_
  rintro e w2 ⟨rfl, hr⟩
  have h3 := h2.out w2 hr.tab
  replace h3 : Hid _ := h3
  replace hr : Hid _ := hr
  clear h1 h2
  go_wp2_with fail
  refine Calls.mono h3.out ?_
  rintro e w3 ⟨rfl, hb⟩
  go_wp2
  go_ret
  exact ⟨rfl, (TRet.before hb3 hr.out).then hb⟩

set_option maxHeartbeats 4000000 in
theorem answer_3 {w : World} {B : Nat} {c : Conf} {L : Lay} {P : PLay} (h : TSt w B c L P) (a b : Int) :
    Calls Tryd.prog 6 #[.pointer (some ⟨P.tb, 0, none⟩), .agg #[I 3, I a, I b]] w fun e w' => e = .returned (S (ansOf c L (cmOf 3 a b)).1) ∧ TRet B c P (ansOf c L (cmOf 3 a b)).2 w w' := by
  have e : ansOf c L (cmOf 3 a b) = (numT (spN c L (⟨2, 0, 0⟩ : Op3)).1 (spN c L (⟨2, 0, 0⟩ : Op3)).2.1, (spN c L (⟨2, 0, 0⟩ : Op3)).2.2) := rfl
  have h0 : Hid (∀ W, Calls Tryd.prog 19 #[.agg #[I 3, I a, I b]] W fun e w' => e = .returned (.tuple #[.agg #[I (Op3.kind (⟨2, 0, 0⟩ : Op3)), I (Op3.val (⟨2, 0, 0⟩ : Op3)), I (Op3.node (⟨2, 0, 0⟩ : Op3))], .bool true]) ∧ Below W.heap.size W w') := fun W => twanted_c 3 a b (⟨2, 0, 0⟩ : Op3) (by simp) W
  have h1 : Hid (∀ W, Below w.heap.size w W → Calls Tryd.prog 20 #[.pointer (some ⟨P.tb, 0, none⟩), .agg #[I (Op3.kind (⟨2, 0, 0⟩ : Op3)), I (Op3.val (⟨2, 0, 0⟩ : Op3)), I (Op3.node (⟨2, 0, 0⟩ : Op3))]] W fun e w' => e = .returned (.tuple #[I (spN c L (⟨2, 0, 0⟩ : Op3)).1, I (spN c L (⟨2, 0, 0⟩ : Op3)).2.1]) ∧ TRet B c P (spN c L (⟨2, 0, 0⟩ : Op3)).2.2 W w') := fun W hW => tspawn_c (h.below hW) (⟨2, 0, 0⟩ : Op3) (inbN (k := 0) (by omega) (by omega))
  obtain ⟨i1, i2⟩ := spN_in h.rel (⟨2, 0, 0⟩ : Op3)
  have h2 : Hid (∀ W, Tab W → Calls Tryd.prog 16 #[I (spN c L (⟨2, 0, 0⟩ : Op3)).1, I (spN c L (⟨2, 0, 0⟩ : Op3)).2.1] W fun x w' => x = .returned (S (numT (spN c L (⟨2, 0, 0⟩ : Op3)).1 (spN c L (⟨2, 0, 0⟩ : Op3)).2.1)) ∧ Below W.heap.size W w') := fun W hW => knumber_c _ _ i1.i6 i2.i6 hW
  rw [e]
  dsimp only at h0 h1 ⊢
  obtain ⟨L', hL'⟩ : ∃ L', L' = (spN c L (⟨2, 0, 0⟩ : Op3)).2.2 := ⟨_, rfl⟩
  rw [← hL'] at h1 ⊢
  generalize numT (spN c L (⟨2, 0, 0⟩ : Op3)).1 (spN c L (⟨2, 0, 0⟩ : Op3)).2.1 = t at *
  generalize (spN c L (⟨2, 0, 0⟩ : Op3)).1 = n at *
  generalize (spN c L (⟨2, 0, 0⟩ : Op3)).2.1 = er at *
  have hB0 : Hid (Below w.heap.size w (w.alloc (.cells #[I 3, I a, I b] 30))) := (Below.refl _ _).alloc (Nat.le_refl _) _
  obtain ⟨f1, _⟩ := nb_facts (nb_alloc w #[I 3, I a, I b] 30)
  have c0 := f1 0
  have c1 := f1 1
  have c2 := f1 2
  simp at c0 c1 c2
  clear h hL' e f1 i1 i2
  go_enter Tryd.func6, Tryd.ntmps6
  go_wp2_with fail
  refine Calls.mono (h0.out _) ?_
  rintro e w1 ⟨rfl, hb1⟩
  have hb2 : Below w.heap.size w w1 := hB0.out.trans (hb1.mono hB0.out.size)
  clear h0 hb1 c0 c1 c2
  go_wp2_with fail
  have hb3 : Below w.heap.size w (w1.alloc (.cells #[I 2, I 0, I 0] 58)) := hb2.alloc hb2.size _
  refine Calls.mono (h1.out _ hb3) ?_
  rintro e w2 ⟨rfl, hr⟩
  have h3 := h2.out w2 hr.tab
  replace h3 : Hid _ := h3
  replace hr : Hid _ := hr
  clear h1 h2
  go_wp2_with fail
  refine Calls.mono h3.out ?_
  rintro e w3 ⟨rfl, hb⟩
  go_wp2
  go_ret
  exact ⟨rfl, (TRet.before hb3 hr.out).then hb⟩

set_option maxHeartbeats 4000000 in
theorem answer_4 {w : World} {B : Nat} {c : Conf} {L : Lay} {P : PLay} (h : TSt w B c L P) (a b : Int) :
    Calls Tryd.prog 6 #[.pointer (some ⟨P.tb, 0, none⟩), .agg #[I 4, I a, I b]] w fun e w' => e = .returned (S (ansOf c L (cmOf 4 a b)).1) ∧ TRet B c P (ansOf c L (cmOf 4 a b)).2 w w' := by
  have e : ansOf c L (cmOf 4 a b) = (numT (spN c L (⟨3, 0, a⟩ : Op3)).1 (spN c L (⟨3, 0, a⟩ : Op3)).2.1, (spN c L (⟨3, 0, a⟩ : Op3)).2.2) := rfl
  have h0 : Hid (∀ W, Calls Tryd.prog 19 #[.agg #[I 4, I a, I b]] W fun e w' => e = .returned (.tuple #[.agg #[I (Op3.kind (⟨3, 0, a⟩ : Op3)), I (Op3.val (⟨3, 0, a⟩ : Op3)), I (Op3.node (⟨3, 0, a⟩ : Op3))], .bool true]) ∧ Below W.heap.size W w') := fun W => twanted_c 4 a b (⟨3, 0, a⟩ : Op3) (by simp) W
  have h1 : Hid (∀ W, Below w.heap.size w W → Calls Tryd.prog 20 #[.pointer (some ⟨P.tb, 0, none⟩), .agg #[I (Op3.kind (⟨3, 0, a⟩ : Op3)), I (Op3.val (⟨3, 0, a⟩ : Op3)), I (Op3.node (⟨3, 0, a⟩ : Op3))]] W fun e w' => e = .returned (.tuple #[I (spN c L (⟨3, 0, a⟩ : Op3)).1, I (spN c L (⟨3, 0, a⟩ : Op3)).2.1]) ∧ TRet B c P (spN c L (⟨3, 0, a⟩ : Op3)).2.2 W w') := fun W hW => tspawn_c (h.below hW) (⟨3, 0, a⟩ : Op3) (inbN (k := 0) (by omega) (by omega))
  obtain ⟨i1, i2⟩ := spN_in h.rel (⟨3, 0, a⟩ : Op3)
  have h2 : Hid (∀ W, Tab W → Calls Tryd.prog 16 #[I (spN c L (⟨3, 0, a⟩ : Op3)).1, I (spN c L (⟨3, 0, a⟩ : Op3)).2.1] W fun x w' => x = .returned (S (numT (spN c L (⟨3, 0, a⟩ : Op3)).1 (spN c L (⟨3, 0, a⟩ : Op3)).2.1)) ∧ Below W.heap.size W w') := fun W hW => knumber_c _ _ i1.i6 i2.i6 hW
  rw [e]
  dsimp only at h0 h1 ⊢
  obtain ⟨L', hL'⟩ : ∃ L', L' = (spN c L (⟨3, 0, a⟩ : Op3)).2.2 := ⟨_, rfl⟩
  rw [← hL'] at h1 ⊢
  generalize numT (spN c L (⟨3, 0, a⟩ : Op3)).1 (spN c L (⟨3, 0, a⟩ : Op3)).2.1 = t at *
  generalize (spN c L (⟨3, 0, a⟩ : Op3)).1 = n at *
  generalize (spN c L (⟨3, 0, a⟩ : Op3)).2.1 = er at *
  have hB0 : Hid (Below w.heap.size w (w.alloc (.cells #[I 4, I a, I b] 30))) := (Below.refl _ _).alloc (Nat.le_refl _) _
  obtain ⟨f1, _⟩ := nb_facts (nb_alloc w #[I 4, I a, I b] 30)
  have c0 := f1 0
  have c1 := f1 1
  have c2 := f1 2
  simp at c0 c1 c2
  clear h hL' e f1 i1 i2
  go_enter Tryd.func6, Tryd.ntmps6
  go_wp2_with fail
  refine Calls.mono (h0.out _) ?_
  rintro e w1 ⟨rfl, hb1⟩
  have hb2 : Below w.heap.size w w1 := hB0.out.trans (hb1.mono hB0.out.size)
  clear h0 hb1 c0 c1 c2
  go_wp2_with fail
  have hb3 : Below w.heap.size w (w1.alloc (.cells #[I 3, I 0, I a] 58)) := hb2.alloc hb2.size _
  refine Calls.mono (h1.out _ hb3) ?_
  rintro e w2 ⟨rfl, hr⟩
  have h3 := h2.out w2 hr.tab
  replace h3 : Hid _ := h3
  replace hr : Hid _ := hr
  clear h1 h2
  go_wp2_with fail
  refine Calls.mono h3.out ?_
  rintro e w3 ⟨rfl, hb⟩
  go_wp2
  go_ret
  exact ⟨rfl, (TRet.before hb3 hr.out).then hb⟩

set_option maxHeartbeats 4000000 in
theorem answer_5 {w : World} {B : Nat} {c : Conf} {L : Lay} {P : PLay} (h : TSt w B c L P) (a b : Int) :
    Calls Tryd.prog 6 #[.pointer (some ⟨P.tb, 0, none⟩), .agg #[I 5, I a, I b]] w fun e w' => e = .returned (S (ansOf c L (cmOf 5 a b)).1) ∧ TRet B c P (ansOf c L (cmOf 5 a b)).2 w w' := by
  have e : ansOf c L (cmOf 5 a b) = (numT (spN c L (⟨4, 0, a⟩ : Op3)).1 (spN c L (⟨4, 0, a⟩ : Op3)).2.1, (spN c L (⟨4, 0, a⟩ : Op3)).2.2) := rfl
  have h0 : Hid (∀ W, Calls Tryd.prog 19 #[.agg #[I 5, I a, I b]] W fun e w' => e = .returned (.tuple #[.agg #[I (Op3.kind (⟨4, 0, a⟩ : Op3)), I (Op3.val (⟨4, 0, a⟩ : Op3)), I (Op3.node (⟨4, 0, a⟩ : Op3))], .bool true]) ∧ Below W.heap.size W w') := fun W => twanted_c 5 a b (⟨4, 0, a⟩ : Op3) (by simp) W
  have h1 : Hid (∀ W, Below w.heap.size w W → Calls Tryd.prog 20 #[.pointer (some ⟨P.tb, 0, none⟩), .agg #[I (Op3.kind (⟨4, 0, a⟩ : Op3)), I (Op3.val (⟨4, 0, a⟩ : Op3)), I (Op3.node (⟨4, 0, a⟩ : Op3))]] W fun e w' => e = .returned (.tuple #[I (spN c L (⟨4, 0, a⟩ : Op3)).1, I (spN c L (⟨4, 0, a⟩ : Op3)).2.1]) ∧ TRet B c P (spN c L (⟨4, 0, a⟩ : Op3)).2.2 W w') := fun W hW => tspawn_c (h.below hW) (⟨4, 0, a⟩ : Op3) (inbN (k := 0) (by omega) (by omega))
  obtain ⟨i1, i2⟩ := spN_in h.rel (⟨4, 0, a⟩ : Op3)
  have h2 : Hid (∀ W, Tab W → Calls Tryd.prog 16 #[I (spN c L (⟨4, 0, a⟩ : Op3)).1, I (spN c L (⟨4, 0, a⟩ : Op3)).2.1] W fun x w' => x = .returned (S (numT (spN c L (⟨4, 0, a⟩ : Op3)).1 (spN c L (⟨4, 0, a⟩ : Op3)).2.1)) ∧ Below W.heap.size W w') := fun W hW => knumber_c _ _ i1.i6 i2.i6 hW
  rw [e]
  dsimp only at h0 h1 ⊢
  obtain ⟨L', hL'⟩ : ∃ L', L' = (spN c L (⟨4, 0, a⟩ : Op3)).2.2 := ⟨_, rfl⟩
  rw [← hL'] at h1 ⊢
  generalize numT (spN c L (⟨4, 0, a⟩ : Op3)).1 (spN c L (⟨4, 0, a⟩ : Op3)).2.1 = t at *
  generalize (spN c L (⟨4, 0, a⟩ : Op3)).1 = n at *
  generalize (spN c L (⟨4, 0, a⟩ : Op3)).2.1 = er at *
  have hB0 : Hid (Below w.heap.size w (w.alloc (.cells #[I 5, I a, I b] 30))) := (Below.refl _ _).alloc (Nat.le_refl _) _
  obtain ⟨f1, _⟩ := nb_facts (nb_alloc w #[I 5, I a, I b] 30)
  have c0 := f1 0
  have c1 := f1 1
  have c2 := f1 2
  simp at c0 c1 c2
  clear h hL' e f1 i1 i2
  go_enter Tryd.func6, Tryd.ntmps6
  go_wp2_with fail
  refine Calls.mono (h0.out _) ?_
  rintro e w1 ⟨rfl, hb1⟩
  have hb2 : Below w.heap.size w w1 := hB0.out.trans (hb1.mono hB0.out.size)
  clear h0 hb1 c0 c1 c2
  go_wp2_with fail
  have hb3 : Below w.heap.size w (w1.alloc (.cells #[I 4, I 0, I a] 58)) := hb2.alloc hb2.size _
  refine Calls.mono (h1.out _ hb3) ?_
  rintro e w2 ⟨rfl, hr⟩
  have h3 := h2.out w2 hr.tab
  replace h3 : Hid _ := h3
  replace hr : Hid _ := hr
  clear h1 h2
  go_wp2_with fail
  refine Calls.mono h3.out ?_
  rintro e w3 ⟨rfl, hb⟩
  go_wp2
  go_ret
  exact ⟨rfl, (TRet.before hb3 hr.out).then hb⟩

set_option maxHeartbeats 4000000 in
theorem answer_8 {w : World} {B : Nat} {c : Conf} {L : Lay} {P : PLay} (h : TSt w B c L P) (a b : Int) :
    Calls Tryd.prog 6 #[.pointer (some ⟨P.tb, 0, none⟩), .agg #[I 8, I a, I b]] w fun e w' => e = .returned (S (ansOf c L (cmOf 8 a b)).1) ∧ TRet B c P (ansOf c L (cmOf 8 a b)).2 w w' := by
  have e : ansOf c L (cmOf 8 a b) = (numT (stN L a b).1 (stN L a b).2.1, (stN L a b).2.2) := rfl
  have h1 : Hid (∀ W, Below w.heap.size w W → Calls Tryd.prog 17 #[.pointer (some ⟨P.tb, 0, none⟩), I a, I b] W fun e w' => e = .returned (.tuple #[I (stN L a b).1, I (stN L a b).2.1]) ∧ TRet B c P (stN L a b).2.2 W w') := fun W hW => tstep_c (h.below hW) a b
  obtain ⟨i1, i2⟩ := stN_in h.rel a b
  have h2 : Hid (∀ W, Tab W → Calls Tryd.prog 16 #[I (stN L a b).1, I (stN L a b).2.1] W fun x w' => x = .returned (S (numT (stN L a b).1 (stN L a b).2.1)) ∧ Below W.heap.size W w') := fun W hW => knumber_c _ _ i1.i6 i2.i6 hW
  rw [e]
  dsimp only
  obtain ⟨L', hL'⟩ : ∃ L', L' = (stN L a b).2.2 := ⟨_, rfl⟩
  rw [← hL'] at h1 ⊢
  generalize numT (stN L a b).1 (stN L a b).2.1 = t at *
  generalize (stN L a b).1 = n at *
  generalize (stN L a b).2.1 = er at *
  have hB0 : Hid (Below w.heap.size w (w.alloc (.cells #[I 8, I a, I b] 30))) := (Below.refl _ _).alloc (Nat.le_refl _) _
  obtain ⟨f1, _⟩ := nb_facts (nb_alloc w #[I 8, I a, I b] 30)
  have c0 := f1 0
  have c1 := f1 1
  have c2 := f1 2
  simp at c0 c1 c2
  clear h hL' e f1 i1 i2
  go_enter Tryd.func6, Tryd.ntmps6
  go_wp2_with fail
  refine Calls.mono (h1.out _ hB0.out) ?_
  rintro e w1 ⟨rfl, hr⟩
  have h3 := h2.out w1 hr.tab
  replace h3 : Hid _ := h3
  replace hr : Hid _ := hr
  clear h1 h2
  go_wp2_with fail
  refine Calls.mono h3.out ?_
  rintro e w2 ⟨rfl, hb⟩
  go_wp2
  go_ret
  exact ⟨rfl, (TRet.before hB0.out hr.out).then hb⟩

set_option maxHeartbeats 4000000 in
theorem answer_9 {w : World} {B : Nat} {c : Conf} {L : Lay} {P : PLay} (h : TSt w B c L P) (a b : Int) :
    Calls Tryd.prog 6 #[.pointer (some ⟨P.tb, 0, none⟩), .agg #[I 9, I a, I b]] w fun e w' => e = .returned (S (ansOf c L (cmOf 9 a b)).1) ∧ TRet B c P (ansOf c L (cmOf 9 a b)).2 w w' := by
  have e : ansOf c L (cmOf 9 a b) = (numT (rsN L a b).1 (rsN L a b).2.1, (rsN L a b).2.2) := rfl
  have h1 : Hid (∀ W, Below w.heap.size w W → Calls Tryd.prog 18 #[.pointer (some ⟨P.tb, 0, none⟩), I a, I b] W fun e w' => e = .returned (.tuple #[I (rsN L a b).1, I (rsN L a b).2.1]) ∧ TRet B c P (rsN L a b).2.2 W w') := fun W hW => trest_c (h.below hW) a b
  obtain ⟨i1, i2⟩ := rsN_in h.rel a b
  have h2 : Hid (∀ W, Tab W → Calls Tryd.prog 16 #[I (rsN L a b).1, I (rsN L a b).2.1] W fun x w' => x = .returned (S (numT (rsN L a b).1 (rsN L a b).2.1)) ∧ Below W.heap.size W w') := fun W hW => knumber_c _ _ i1.i6 i2.i6 hW
  rw [e]
  dsimp only
  obtain ⟨L', hL'⟩ : ∃ L', L' = (rsN L a b).2.2 := ⟨_, rfl⟩
  rw [← hL'] at h1 ⊢
  generalize numT (rsN L a b).1 (rsN L a b).2.1 = t at *
  generalize (rsN L a b).1 = n at *
  generalize (rsN L a b).2.1 = er at *
  have hB0 : Hid (Below w.heap.size w (w.alloc (.cells #[I 9, I a, I b] 30))) := (Below.refl _ _).alloc (Nat.le_refl _) _
  obtain ⟨f1, _⟩ := nb_facts (nb_alloc w #[I 9, I a, I b] 30)
  have c0 := f1 0
  have c1 := f1 1
  have c2 := f1 2
  simp at c0 c1 c2
  clear h hL' e f1 i1 i2
  go_enter Tryd.func6, Tryd.ntmps6
  go_wp2_with fail
  refine Calls.mono (h1.out _ hB0.out) ?_
  rintro e w1 ⟨rfl, hr⟩
  have h3 := h2.out w1 hr.tab
  replace h3 : Hid _ := h3
  replace hr : Hid _ := hr
  clear h1 h2
  go_wp2_with fail
  refine Calls.mono h3.out ?_
  rintro e w2 ⟨rfl, hb⟩
  go_wp2
  go_ret
  exact ⟨rfl, (TRet.before hB0.out hr.out).then hb⟩

set_option maxHeartbeats 8000000 in
set_option maxRecDepth 100000 in
theorem answer_7 {w : World} {B : Nat} {c : Conf} {L : Lay} {P : PLay} (h : TSt w B c L P) (a b : Int) :
    Calls Tryd.prog 6 #[.pointer (some ⟨P.tb, 0, none⟩), .agg #[I 7, I a, I b]] w fun e w' => e = .returned (S (ansOf c L (cmOf 7 a b)).1) ∧ TRet B c P (ansOf c L (cmOf 7 a b)).2 w w' := by
  have e : ansOf c L (cmOf 7 a b) = (procT (prN L a).1 (prN L a).2, L) := rfl
  have h1 : Hid (∀ W, Below w.heap.size w W → Calls Tryd.prog 15 #[.pointer (some ⟨P.tb, 0, none⟩), I a] W fun e w' => e = .returned (.tuple #[.agg #[I (prN L a).1.1, I (prN L a).1.2.1, I (prN L a).1.2.2], I (prN L a).2]) ∧ Below W.heap.size W w') := fun W hW => tproc_c (h.below hW) a
  obtain ⟨i1, i2, i3, i4⟩ := prN_in h.vb h.rel a
  rw [e]
  dsimp only
  have HR : Hid (∀ W, Below w.heap.size w W → TRet B c P L w W) := fun W hW => TRet.same h hW
  have HTab : Hid (Tab w) := h.tab.tab
  have j1 := i1.i6
  have j2 := i2.i6
  have j3 := i3.i6
  have j4 := i4.i6
  unfold procT
  clear i1 i2 i3 i4
  generalize (prN L a).1.1 = p1 at *
  generalize (prN L a).1.2.1 = p2 at *
  generalize (prN L a).1.2.2 = p3 at *
  generalize (prN L a).2 = er at *
  have hB0 : Hid (Below w.heap.size w (w.alloc (.cells #[I 7, I a, I b] 30))) := (Below.refl _ _).alloc (Nat.le_refl _) _
  obtain ⟨f1, _⟩ := nb_facts (nb_alloc w #[I 7, I a, I b] 30)
  have c0 := f1 0
  have c1 := f1 1
  simp at c0 c1
  clear h e f1
  by_cases h0 : er = 0
  · rw [if_pos h0]
    subst h0
    have l1 := j1.len
    have l2 := j2.len
    have l3 := j3.len
    have HC1 : Hid (∀ w0 W, Hid (BoxAt w0 #[I p1, I p2, I p3] 51 W) → Calls Tryd.prog 11 #[.int .i64 p1] W fun e w' => e = .returned (S (Lib.itoa p1)) ∧ BoxAt w0 #[I p1, I p2, I p3] 51 w') := fun w0 W hW => hW.out.itoa p1 j1
    have HC2 : Hid (∀ w0 W, Hid (BoxAt w0 #[I p1, I p2, I p3] 51 W) → Calls Tryd.prog 11 #[.int .i64 p2] W fun e w' => e = .returned (S (Lib.itoa p2)) ∧ BoxAt w0 #[I p1, I p2, I p3] 51 w') := fun w0 W hW => hW.out.itoa p2 j2
    have HC3 : Hid (∀ w0 W, Hid (BoxAt w0 #[I p1, I p2, I p3] 51 W) → Calls Tryd.prog 11 #[.int .i64 p3] W fun e w' => e = .returned (S (Lib.itoa p3)) ∧ BoxAt w0 #[I p1, I p2, I p3] 51 w') := fun w0 W hW => hW.out.itoa p3 j3
    have hSA := S_app
    generalize Lib.itoa p1 = a1 at *
    generalize Lib.itoa p2 = a2 at *
    generalize Lib.itoa p3 = a3 at *
    have q1 : ¬ 9223372036854775807 < a1.length + 1 := by omega
    have q2 : ¬ 9223372036854775807 < a1.length + 1 + a2.length := by omega
    have q3 : ¬ 9223372036854775807 < a1.length + (a2.length + 1) + 1 := by omega
    have q4 : ¬ 9223372036854775807 < a1.length + (a2.length + 1 + 1) + a3.length := by omega
    clear j1 j2 j3 j4
    go_enter Tryd.func6, Tryd.ntmps6
    go_wp2_with fail
    refine Calls.mono (h1.out _ hB0.out) ?_
    rintro e w1 ⟨rfl, hb1⟩
    have hb2 : Hid (Below w.heap.size w w1) := hB0.out.trans (hb1.mono hB0.out.size)
    have H0 : Hid (BoxAt w1 #[I p1, I p2, I p3] 51 (w1.alloc (.cells #[I p1, I p2, I p3] 51))) := BoxAt.new (HTab.out.below hb2.out) _ _
    have HS : Hid (∀ W, BoxAt w1 #[I p1, I p2, I p3] 51 W → (W.cell? ⟨w1.heap.size, 0, none⟩ = some (I p1) ∧ W.cell? ⟨w1.heap.size, 1, none⟩ = some (I p2) ∧ W.cell? ⟨w1.heap.size, 2, none⟩ = some (I p3)) ∧ Hid (BoxAt w1 #[I p1, I p2, I p3] 51 W)) := by
      intro W hW
      have f1 := (nb_facts hW.blk).1
      exact ⟨⟨f1 0, f1 1, f1 2⟩, hW⟩
    have HD1 : Hid _ := HC1.out w1
    have HD2 : Hid _ := HC2.out w1
    have HD3 : Hid _ := HC3.out w1
    clear h1 hb1 c0 c1 HC1 HC2 HC3
    go_wp2_with fail
    go_region_held3 (fun W => (W.cell? ⟨w1.heap.size, 0, none⟩ = some (I p1) ∧ W.cell? ⟨w1.heap.size, 1, none⟩ = some (I p2) ∧ W.cell? ⟨w1.heap.size, 2, none⟩ = some (I p3)) ∧ Hid (BoxAt w1 #[I p1, I p2, I p3] 51 W)) (first | exact HS.out _ H0.out.drew | exact HS.out _ (by assumption)) (first | (go_at_call_of 11 p1; refine (HD1.out _ (And.right (by assumption))).mono ?_; rintro e w' ⟨rfl, hbx⟩) | (go_at_call_of 11 p2; refine (HD2.out _ (And.right (by assumption))).mono ?_; rintro e w' ⟨rfl, hbx⟩) | (go_at_call_of 11 p3; refine (HD3.out _ (And.right (by assumption))).mono ?_; rintro e w' ⟨rfl, hbx⟩))
    go_wp2
    go_ret
    exact ⟨by simp, HR.out _ (hb2.out.trans (hbx.below.mono hb2.out.size))⟩
  · rw [if_neg h0]
    have b0 : (er == 0) = false := by simpa using h0
    have h2 : Hid (∀ W, Tab W → Calls Tryd.prog 16 #[I 0, I er] W fun x w' => x = .returned (S (33 :: Lib.itoa er)) ∧ Below W.heap.size W w') := by
      intro W hW
      have := knumber_c 0 er ⟨by omega, by omega⟩ j4 hW
      unfold numT at this
      rw [if_neg h0] at this
      exact this
    generalize (33 :: Lib.itoa er) = t at *
    clear j1 j2 j3 j4 h0
    go_enter Tryd.func6, Tryd.ntmps6
    go_wp2_with fail
    refine Calls.mono (h1.out _ hB0.out) ?_
    rintro e w1 ⟨rfl, hb1⟩
    have hb2 : Below w.heap.size w w1 := hB0.out.trans (hb1.mono hB0.out.size)
    clear h1 hb1 c0 c1
    go_wp2_with fail
    have hb3 : Below w.heap.size w (w1.alloc (.cells #[I p1, I p2, I p3] 51)) := hb2.alloc hb2.size _
    refine Calls.mono (h2.out _ (HTab.out.below hb3)) ?_
    rintro e w2 ⟨rfl, hb⟩
    go_wp2
    go_ret
    exact ⟨rfl, HR.out _ (hb3.trans (hb.mono hb3.size))⟩

set_option maxHeartbeats 4000000 in
theorem answer_10 {w : World} {B : Nat} {c : Conf} {L : Lay} {P : PLay} (h : TSt w B c L P) (a b : Int) :
    Calls Tryd.prog 6 #[.pointer (some ⟨P.tb, 0, none⟩), .agg #[I 10, I a, I b]] w fun e w' => e = .returned (S (ansOf c L (cmOf 10 a b)).1) ∧ TRet B c P (ansOf c L (cmOf 10 a b)).2 w w' := by
  have e : ansOf c L (cmOf 10 a b) = (leavesT (rnodes L), L) := rfl
  obtain ⟨n1, n2⟩ := rnodes_ndb h.vb h.rel
  have h1 : Hid (∀ W, Below w.heap.size w W → Calls Tryd.prog 13 #[.pointer (some ⟨P.tb, 0, none⟩)] W fun e w' => ∃ x, e = .returned x ∧ Below W.heap.size W w' ∧ Calls Tryd.prog 14 #[x] w' fun e w2 => e = .returned (S (leavesT (rnodes L))) ∧ Below w'.heap.size w' w2) := by
    intro W hW
    refine (tnodes_c (h.below hW)).mono ?_
    rintro e w' ⟨x, l, rfl, hr, hl, hb⟩
    exact ⟨x, rfl, hb, kleaves_c hr _ hl n1 n2 ((h.below hW).tab.tab.below hb)⟩
  rw [e]
  dsimp only
  have HR : Hid (∀ W, Below w.heap.size w W → TRet B c P L w W) := fun W hW => TRet.same h hW
  generalize leavesT (rnodes L) = t at *
  have hB0 : Hid (Below w.heap.size w (w.alloc (.cells #[I 10, I a, I b] 30))) := (Below.refl _ _).alloc (Nat.le_refl _) _
  obtain ⟨f1, _⟩ := nb_facts (nb_alloc w #[I 10, I a, I b] 30)
  have c0 := f1 0
  simp at c0
  clear h e f1 n1 n2
  go_enter Tryd.func6, Tryd.ntmps6
  go_wp2_with fail
  refine Calls.mono (h1.out _ hB0.out) ?_
  rintro e w1 ⟨x, rfl, hb1, h2⟩
  have hb2 : Below w.heap.size w w1 := hB0.out.trans (hb1.mono hB0.out.size)
  replace h2 : Hid _ := h2
  clear h1 hb1
  go_wp2_with fail
  refine Calls.mono h2.out ?_
  rintro e w2 ⟨rfl, hb⟩
  go_wp2
  go_ret
  exact ⟨rfl, HR.out _ (hb2.trans (hb.mono hb2.size))⟩

theorem answer_c {w : World} {B : Nat} {c : Conf} {L : Lay} {P : PLay} (h : TSt w B c L P) (k a b : Int) (ht : txOf k a b ≠ []) :
    Calls Tryd.prog 6 #[.pointer (some ⟨P.tb, 0, none⟩), .agg #[I k, I a, I b]] w fun e w' => e = .returned (S (ansOf c L (cmOf k a b)).1) ∧ TRet B c P (ansOf c L (cmOf k a b)).2 w w' := by
  have ha := tx_op ht
  have hk : k = 1 ∨ k = 2 ∨ k = 3 ∨ k = 4 ∨ k = 5 ∨ k = 7 ∨ k = 8 ∨ k = 9 ∨ k = 10 := by
    by_cases hk : k = 1 ∨ k = 2 ∨ k = 3 ∨ k = 4 ∨ k = 5 ∨ k = 7 ∨ k = 8 ∨ k = 9 ∨ k = 10
    · exact hk
    · exfalso
      apply ht
      have h2 : ¬ (k = 2 ∧ -999999 ≤ a ∧ a ≤ 999999) := by omega
      unfold txOf
      rw [if_neg (by omega), if_neg (by omega), if_neg (by omega), if_neg h2]
      split
      · rfl
      rw [if_neg (by omega), if_neg (by omega), if_neg (by omega)]
      split
      · rfl
      rw [if_neg (by omega), if_neg (by omega)]
  rcases hk with rfl | rfl | rfl | rfl | rfl | rfl | rfl | rfl | rfl
  · exact answer_1 h a b
  · exact answer_2 h a b ha
  · exact answer_3 h a b
  · exact answer_4 h a b
  · exact answer_5 h a b
  · exact answer_7 h a b
  · exact answer_8 h a b
  · exact answer_9 h a b
  · exact answer_10 h a b

end Go.Proofs.YtjnmpejcegmkhabDoor

namespace Go.Proofs.YtjnmpejcegmkhabDoor
open Go.RowKit

/-- A reader of the text t that has come to r. -/
structure RdAt (w : World) (rb : Nat) (t : List UInt8) (r : Nat) : Prop where
  blk : w.heap[rb]? = some (.cells #[S t, I r] 91 (0, 0))
  le : r ≤ t.length
  len : t.length ≤ 600

theorem RdAt.below {w w' : World} {rb r : Nat} {t : List UInt8} (h : RdAt w rb t r) (hb : Below w.heap.size w w') : RdAt w' rb t r :=
  ⟨(hb.block _ (Array.getElem?_eq_some_iff.1 h.blk).1).trans h.blk, h.le, h.len⟩
theorem RdAt.put {w : World} {rb q : Nat} {t : List UInt8} (h : RdAt w rb t q) (hq : q < t.length) : RdAt (w.setCell ⟨rb, 1, none⟩ (I ((q : Int) + 1))) rb t (q + 1) ∧ ChgT rb [91] w (w.setCell ⟨rb, 1, none⟩ (I ((q : Int) + 1))) := by
  refine ⟨⟨?_, by omega, h.len⟩, ⟨rfl, rfl, rfl, by simp [World.setCell], fun k _ hc => Below.heap_setCell _ _ _ _ ?_⟩⟩
  · have := nb_set h.blk 1 (I ((q : Int) + 1))
    rw [this]
    rfl
  · intro e
    have e' : k = rb := e
    rcases hc with hc | hc
    · omega
    · exact absurd (hc _ _ _ (by rw [e']; exact h.blk)) (by simp)

set_option maxHeartbeats 4000000 in
theorem isDigit_c (b : UInt8) (w : World) : Calls Tryd.prog 85 #[.int .u8 b.toNat] w fun e w' => e = .returned (.bool (isDg b)) ∧ w' = w := by
  have HD : Hid (isDg b = (decide (48 ≤ b.toNat) && decide (b.toNat ≤ 57))) := by
    show _ = _
    unfold isDg
    simp [UInt8.le_iff_toNat_le]
  generalize isDg b = x at *
  generalize b.toNat = n at *
  by_cases h1 : 48 ≤ n
  · by_cases h2 : n ≤ 57
    · have b1 : decide ((n : Int) ≥ 48) = true := by simp; omega
      have b2 : decide ((n : Int) ≤ 57) = true := by simp; omega
      have e : x = true := by rw [HD.out]; simp; omega
      subst e
      clear HD h1 h2
      go_enter Tryd.func85, Tryd.ntmps85
      go_wp2
      go_ret
      exact ⟨rfl, rfl⟩
    · have b1 : decide ((n : Int) ≥ 48) = true := by simp; omega
      have b2 : decide ((n : Int) ≤ 57) = false := by simp; omega
      have e : x = false := by rw [HD.out]; simp; omega
      subst e
      clear HD h1 h2
      go_enter Tryd.func85, Tryd.ntmps85
      go_wp2
      go_ret
      exact ⟨rfl, rfl⟩
  · have b1 : decide ((n : Int) ≥ 48) = false := by simp; omega
    have e : x = false := by rw [HD.out]; simp; omega
    subst e
    clear HD h1
    go_enter Tryd.func85, Tryd.ntmps85
    go_wp2
    go_ret
    exact ⟨rfl, rfl⟩

set_option maxHeartbeats 4000000 in
theorem skip_c {w : World} {rb r : Nat} {t : List UInt8} (h : RdAt w rb t r) (b : UInt8) : Calls Tryd.prog 34 #[.pointer (some ⟨rb, 0, none⟩), .int .u8 b.toNat] w fun e w' => e = .returned (.bool (decide ((t.drop r).head? = some b))) ∧ RdAt w' rb t (if (t.drop r).head? = some b then r + 1 else r) ∧ ChgT rb [91] w w' := by
  obtain ⟨f1, f2⟩ := nb_facts h.blk
  have c0 := f1 0
  have c1 := f1 1
  simp at c0 c1
  have z1 := f2 1
  have hle := h.le
  have hlen := h.len
  have ll := cell_lt c0
  by_cases hr : r < t.length
  · have hd : t.drop r = t[r] :: t.drop (r + 1) := List.drop_eq_getElem_cons hr
    rw [hd, List.head?_cons]
    have hx : ((⟨t.toArray⟩ : ByteArray)[r]'hr).toNat = (t[r]).toNat := rfl
    have b1 : decide (t.length ≤ r) = false := by simp; omega
    by_cases hb : t[r] = b
    · rw [if_pos (by rw [hb]), decide_eq_true (by rw [hb])]
      rw [hb] at hx
      have HR : Hid (RdAt (w.setCell ⟨rb, 1, none⟩ (I ((r : Int) + 1))) rb t (r + 1) ∧ ChgT rb [91] w (w.setCell ⟨rb, 1, none⟩ (I ((r : Int) + 1)))) := by
        refine ⟨⟨?_, by omega, hlen⟩, ⟨rfl, rfl, rfl, by simp [World.setCell], fun k _ hc => Below.heap_setCell _ _ _ _ ?_⟩⟩
        · have := nb_set h.blk 1 (I ((r : Int) + 1))
          rw [this]
          rfl
        · intro e
          have e' : k = rb := e
          rcases hc with hc | hc
          · omega
          · exact absurd (hc _ _ _ (by rw [e']; exact h.blk)) (by simp)
      clear h f1 f2 hd hb
      go_enter Tryd.func34, Tryd.ntmps34
      go_wp2_with fail
      go_quiet (fail)
      go_wp2
      go_ret
      exact ⟨rfl, ⟨HR.out.1.blk, HR.out.1.le, HR.out.1.len⟩, ⟨HR.out.2.os, HR.out.2.tape, HR.out.2.output, HR.out.2.size, HR.out.2.block⟩⟩
    · have b2 : (((t[r]).toNat : Int) != (b.toNat : Int)) = true := by
        rw [bne_iff_ne]
        intro e
        exact hb (UInt8.toNat_inj.1 (by omega))
      rw [if_neg (by simpa using hb), decide_eq_false (by simpa using hb)]
      have HR : Hid (RdAt w rb t r) := h
      generalize (t[r]).toNat = k at *
      clear h f1 f2 hd hb
      go_enter Tryd.func34, Tryd.ntmps34
      go_wp2_with fail
      go_quiet (fail)
      go_wp2
      go_ret
      exact ⟨rfl, ⟨HR.out.blk, HR.out.le, HR.out.len⟩, ChgT.of_below (Below.drewN' (Below.refl _ _) _)⟩
  · have hd : t.drop r = [] := List.drop_eq_nil_of_le (by omega)
    rw [hd]
    have b1 : decide (t.length ≤ r) = true := by simp; omega
    have HR : Hid (RdAt w rb t r) := h
    rw [if_neg (by simp), decide_eq_false (by simp)]
    clear h f1 f2 hd
    go_enter Tryd.func34, Tryd.ntmps34
    go_wp2_with fail
    go_quiet (fail)
    go_wp2
    go_ret
    exact ⟨rfl, ⟨HR.out.blk, HR.out.le, HR.out.len⟩, ChgT.of_below (Below.drewN' (Below.refl _ _) _)⟩

/-- A number is read: at most six digits. -/
theorem dgOf_drop {l : List UInt8} {k : Nat} (hk : k < (dgOf l).length) : ∃ h : k < l.length, (dgOf l)[k] = l[k] ∧ isDg l[k] = true ∧ k < 6 := by
  unfold dgOf at hk ⊢
  have hp : (l.take 6).takeWhile isDg <+: l.take 6 := List.takeWhile_prefix _
  have h1 : k < (l.take 6).length := Nat.lt_of_lt_of_le hk hp.length_le
  have h2 : k < l.length ∧ k < 6 := by simp at h1; omega
  have e : ((l.take 6).takeWhile isDg)[k] = l[k]'h2.1 := by
    rw [hp.getElem hk]
    simp
  have ha : isDg ((l.take 6).takeWhile isDg)[k] = true := by
    have := List.all_takeWhile (p := isDg) (l := l.take 6)
    rw [List.all_eq_true] at this
    exact this _ (List.getElem_mem hk)
  exact ⟨h2.1, e, by rw [← e]; exact ha, h2.2⟩
theorem tw_stop (l : List UInt8) : (l.takeWhile isDg).length = l.length ∨ ∃ h : (l.takeWhile isDg).length < l.length, isDg l[(l.takeWhile isDg).length] = false := by
  induction l with
  | nil => exact Or.inl rfl
  | cons b l ih =>
    cases hb : isDg b with
    | false => exact Or.inr ⟨by simp [hb], by simp [hb]⟩
    | true =>
      rcases ih with h | ⟨h, e⟩
      · exact Or.inl (by simp [hb, h])
      · exact Or.inr ⟨by simp [hb]; exact h, by simp [hb]; exact e⟩
theorem dgOf_stop (l : List UInt8) : (dgOf l).length = 6 ∨ (dgOf l).length = l.length ∨ ∃ h : (dgOf l).length < l.length, isDg l[(dgOf l).length] = false := by
  rcases tw_stop (l.take 6) with h | ⟨h, e⟩
  · have : (dgOf l).length = min 6 l.length := by unfold dgOf; rw [h, List.length_take]
    omega
  · refine Or.inr (Or.inr ⟨?_, ?_⟩)
    · unfold dgOf
      simp at h
      omega
    · simpa [dgOf] using e
theorem valOf_take {l : List UInt8} {k : Nat} (hk : k < l.length) : valOf (l.take (k + 1)) = 10 * valOf (l.take k) + ((l[k].toNat : Int) - 48) := by
  rw [List.take_succ_eq_append_getElem hk]
  simp only [valOf, List.foldl_append, List.foldl_cons, List.foldl_nil]
theorem isDg_range {b : UInt8} (h : isDg b = true) : 48 ≤ b.toNat ∧ b.toNat ≤ 57 := by
  unfold isDg at h
  simp [UInt8.le_iff_toNat_le] at h
  exact h
theorem valOf_range {l : List UInt8} (h : ∀ b ∈ l, isDg b = true) : ∀ k, k ≤ l.length → 0 ≤ valOf (l.take k) ∧ valOf (l.take k) < ((10 ^ k : Nat) : Int)
  | 0, _ => by simp [valOf]
  | k + 1, hk => by
    have ih := valOf_range h k (by omega)
    rw [valOf_take (by omega : k < l.length)]
    have := isDg_range (h l[k] (List.getElem_mem _))
    rw [Nat.pow_succ]
    omega
theorem dgOf_all (l : List UInt8) : ∀ b ∈ dgOf l, isDg b = true := by
  intro b hb
  obtain ⟨k, hk, rfl⟩ := List.getElem_of_mem hb
  obtain ⟨_, e, h, _⟩ := dgOf_drop hk
  rw [e]
  exact h

set_option maxHeartbeats 8000000 in
set_option maxRecDepth 100000 in
theorem readNumber_c {w : World} {rb r : Nat} {t : List UInt8} (h : RdAt w rb t r) : Calls Tryd.prog 75 #[.pointer (some ⟨rb, 0, none⟩)] w fun e w' => e = .returned (.tuple #[I (valOf (dgOf (t.drop r))), .bool (decide (0 < (dgOf (t.drop r)).length))]) ∧ RdAt w' rb t (r + (dgOf (t.drop r)).length) ∧ ChgT rb [91] w w' := by
  have hle := h.le
  have hlen := h.len
  have HR : Hid (∀ k, k ≤ (dgOf (t.drop r)).length → 0 ≤ valOf ((dgOf (t.drop r)).take k) ∧ valOf ((dgOf (t.drop r)).take k) < ((10 ^ k : Nat) : Int)) := valOf_range (dgOf_all _)
  have HK : Hid (∀ k, k < (dgOf (t.drop r)).length → ∃ hk : r + k < t.length, isDg t[r + k] = true ∧ k < 6 ∧ valOf ((dgOf (t.drop r)).take (k + 1)) = 10 * valOf ((dgOf (t.drop r)).take k) + ((t[r + k].toNat : Int) - 48)) := by
    intro k hk
    obtain ⟨h1, e, h2, h3⟩ := dgOf_drop hk
    have h4 : r + k < t.length := by simp at h1; omega
    have e2 : (t.drop r)[k] = t[r + k] := by simp
    exact ⟨h4, by rw [← e2]; exact h2, h3, by rw [valOf_take hk, e, e2]⟩
  have HS : Hid ((dgOf (t.drop r)).length = 6 ∨ r + (dgOf (t.drop r)).length = t.length ∨ ∃ h : r + (dgOf (t.drop r)).length < t.length, isDg t[r + (dgOf (t.drop r)).length] = false) := by
    rcases dgOf_stop (t.drop r) with h | h | ⟨h, e⟩
    · exact Or.inl h
    · exact Or.inr (Or.inl (by simp at h; omega))
    · exact Or.inr (Or.inr ⟨by simp at h; omega, by simpa using e⟩)
  have HV : Hid (valOf (dgOf (t.drop r)) = valOf ((dgOf (t.drop r)).take (dgOf (t.drop r)).length)) := by show _ = _; rw [List.take_length]
  have H6 : Hid ((dgOf (t.drop r)).length ≤ 6) := by
    show _ ≤ _
    by_cases h : (dgOf (t.drop r)).length ≤ 6
    · exact h
    · obtain ⟨_, _, h6, _⟩ := HK.out 6 (by omega)
      omega
  rw [HV.out]
  generalize dgOf (t.drop r) = ds at *
  have h0 : Hid _ := h
  clear h HV
  generalize hm : ds.length = m at *
  generalize hV : valOf (ds.take m) = V
  generalize hKB : decide (0 < m) = KB
  replace hV : Hid _ := hV
  replace hKB : Hid _ := hKB
  go_enter Tryd.func75, Tryd.ntmps75
  go_wp2_with fail
  go_loopw [4, 5] (fun nn dd wr => ∃ k : Nat, k ≤ m ∧ nn = I (valOf (ds.take k)) ∧ dd = I k ∧ Hid (RdAt wr rb t (r + k)) ∧ ChgT rb [91] w wr) (fun _ dd _ => 6 - (intOf dd).toNat)
  case atStart => exact ⟨0, Nat.zero_le _, rfl, rfl, h0, ChgT.refl _ _ _⟩
  case round =>
    obtain ⟨k, hk, rfl, rfl, hr, hcr⟩ := hrel
    generalize hq : r + k = q at hr
    obtain ⟨f1, f2⟩ := nb_facts hr.out.blk
    have c0 := f1 0
    have c1 := f1 1
    simp at c0 c1
    have z1 := f2 1
    have hv := HR.out k hk
    have h6 := H6.out
    have hp : ((10 ^ k : Nat) : Int) ≤ 1000000 := by
      have : 10 ^ k ≤ 10 ^ 6 := Nat.pow_le_pow_right (by omega) (by omega)
      omega
    have hv1 := hv.1
    have hv2 : valOf (ds.take k) < 1000000 := by omega
    clear hv hp
    by_cases hkm : k < m
    · obtain ⟨g1, g2, g3, g4⟩ := HK.out k hkm
      have g1' : q < t.length := by omega
      have g2' : isDg t[q] = true := by simpa [hq] using g2
      have g4' : valOf (ds.take (k + 1)) = 10 * valOf (ds.take k) + ((t[q].toNat : Int) - 48) := by simpa [hq] using g4
      clear g1 g2 g4
      have g1 := g1'
      have g2 := g2'
      have g4 := g4'
      clear g2' g4'
      have hx : ((⟨t.toArray⟩ : ByteArray)[q]'g1).toNat = (t[q]).toNat := rfl
      have b1 : decide ((k : Int) < 6) = true := by simp; omega
      have b2 : decide ((q : Int) < (t.length : Int)) = true := by simp; omega
      have hdg := isDg_range g2
      have hI : ∀ W, Calls Tryd.prog 85 #[.int .u8 ((t[q]).toNat : Int)] W fun e w' => e = .returned (.bool true) ∧ w' = W := by
        intro W
        have := isDigit_c (t[q]) W
        rw [g2] at this
        exact this
      replace g4 : Hid _ := g4
      generalize (t[q]).toNat = d at *
      generalize hvk : valOf (ds.take k) = vk at *
      clear g2 HK HR HS f1 f2
      go_wp2_with fail
      go_quiet ((go_at_call 85; exact Calls.quiet_of_same (hI _)))
      go_wp2_with fail
      go_quiet (fail)
      go_wp2
      have hp := fun n => RdAt.put (hr.out.below (Below.drewN' (Below.refl _ _) n)) g1
      refine ⟨⟨k + 1, by omega, ?_, rfl, ?_, ?_⟩, ?_⟩
      · rw [g4.out]
      · show RdAt _ _ _ (r + (k + 1))
        have e : r + (k + 1) = q + 1 := by omega
        rw [e]
        exact (hp _).1
      · exact (hcr.trans (ChgT.of_below (Below.drewN' (Below.refl _ _) _))).trans (hp _).2
      · show 6 - ((k : Int) + 1).toNat < 6 - (k : Int).toNat
        omega
    · have ek : k = m := by omega
      subst ek
      have HRr : Hid (RdAt wr rb t (r + k)) := by rw [hq]; exact hr
      have hdk : decide ((k : Int) > 0) = KB := by rw [← hKB.out]; exact decide_eq_decide.2 (by omega)
      rw [hV.out]
      rcases HS.out with h7 | h7 | ⟨h7, h8⟩
      · have b1 : decide ((k : Int) < 6) = false := by simp; omega
        clear hv1 hv2
        clear HK HR HS f1 f2 hq hk hkm
        go_wp2_with fail
        go_quiet (fail)
        go_wp2
        go_ret2
        exact ⟨by rw [← hKB.out]; first | rfl | (have e6 : decide (0 < k) = true := (by simp; omega); rw [e6]; rfl), HRr.out.below (Below.drewN' (Below.refl _ _) _), hcr.trans (ChgT.of_below (Below.drewN' (Below.refl _ _) _))⟩
      · have b2 : decide ((q : Int) < (t.length : Int)) = false := by simp; omega
        have b2' : decide (q < t.length) = false := by simp; omega
        by_cases h6k : k = 6
        · have b1 : decide ((k : Int) < 6) = false := by simp; omega
          clear HK HR HS f1 f2 hq hk hkm
          go_wp2_with fail
          go_quiet (fail)
          go_wp2
          go_ret2
          exact ⟨by rw [← hKB.out]; first | rfl | (have e6 : decide (0 < k) = true := (by simp; omega); rw [e6]; rfl), HRr.out.below (Below.drewN' (Below.refl _ _) _), hcr.trans (ChgT.of_below (Below.drewN' (Below.refl _ _) _))⟩
        · have b1 : decide ((k : Int) < 6) = true := by simp; omega
          clear HK HR HS f1 f2 hq hk hkm
          go_wp2_with fail
          go_quiet (fail)
          go_wp2
          go_ret2
          exact ⟨by rw [← hKB.out]; first | rfl | (have e6 : decide (0 < k) = true := (by simp; omega); rw [e6]; rfl), HRr.out.below (Below.drewN' (Below.refl _ _) _), hcr.trans (ChgT.of_below (Below.drewN' (Below.refl _ _) _))⟩
      · have h7' : q < t.length := by omega
        have h8' : isDg t[q] = false := by simpa [hq] using h8
        have hx : ((⟨t.toArray⟩ : ByteArray)[q]'h7').toNat = (t[q]).toNat := rfl
        have b2 : decide ((q : Int) < (t.length : Int)) = true := by simp; omega
        have hI : ∀ W, Calls Tryd.prog 85 #[.int .u8 ((t[q]).toNat : Int)] W fun e w' => e = .returned (.bool false) ∧ w' = W := by
          intro W
          have := isDigit_c (t[q]) W
          rw [h8'] at this
          exact this
        generalize (t[q]).toNat = d at *
        by_cases h6k : k = 6
        · have b1 : decide ((k : Int) < 6) = false := by simp; omega
          clear HK HR HS f1 f2 hq hk hkm h8 h8'
          go_wp2_with fail
          go_quiet (fail)
          go_wp2
          go_ret2
          exact ⟨by rw [← hKB.out]; first | rfl | (have e6 : decide (0 < k) = true := (by simp; omega); rw [e6]; rfl), HRr.out.below (Below.drewN' (Below.refl _ _) _), hcr.trans (ChgT.of_below (Below.drewN' (Below.refl _ _) _))⟩
        · have b1 : decide ((k : Int) < 6) = true := by simp; omega
          clear HK HR HS f1 f2 hq hk hkm h8 h8'
          go_wp2_with fail
          go_quiet ((go_at_call 85; exact Calls.quiet_of_same (hI _)))
          go_wp2
          go_ret2
          exact ⟨by rw [← hKB.out]; first | rfl | (have e6 : decide (0 < k) = true := (by simp; omega); rw [e6]; rfl), HRr.out.below (Below.drewN' (Below.refl _ _) _), hcr.trans (ChgT.of_below (Below.drewN' (Below.refl _ _) _))⟩

end Go.Proofs.YtjnmpejcegmkhabDoor

namespace Go.Proofs.YtjnmpejcegmkhabDoor
open Go.RowKit

def cmV (c : Cm) : Value := .agg #[.int .u8 c.ch.toNat, I c.a, I c.b]
abbrev cm0 : Value := .agg #[.int .u8 0, I 0, I 0]
/-- What a function that reads a command hands back. -/
def CmRet (rb : Nat) (t : List UInt8) (o : Option (Cm × List UInt8)) (e : Ending) (w' : World) : Prop :=
  match o with
  | some x => e = .returned (.tuple #[cmV x.1, .bool true]) ∧ ∃ r', RdAt w' rb t r' ∧ t.drop r' = x.2
  | none => e = .returned (.tuple #[cm0, .bool false])

theorem rdNum_no {l : List UInt8} (h : decide (0 < (dgOf l).length) = false) : rdNum l = none := by
  unfold rdNum
  rw [if_pos (by simpa using h)]
theorem rdNum_yes {l : List UInt8} (h : decide (0 < (dgOf l).length) = true) : rdNum l = some (valOf (dgOf l), l.drop (dgOf l).length) := by
  unfold rdNum
  rw [if_neg (by intro e; rw [e] at h; simp at h)]
theorem dgv_range (l : List UInt8) : 0 ≤ valOf (dgOf l) ∧ valOf (dgOf l) < 1000000 := by
  have h := valOf_range (dgOf_all l) (dgOf l).length (Nat.le_refl _)
  rw [List.take_length] at h
  have h6 : (dgOf l).length ≤ 6 := by
    by_cases h : (dgOf l).length ≤ 6
    · exact h
    · obtain ⟨_, _, _, h6⟩ := dgOf_drop (l := l) (k := 6) (by omega)
      omega
  have : 10 ^ (dgOf l).length ≤ 10 ^ 6 := Nat.pow_le_pow_right (by omega) h6
  omega

/-- What was laid since may be written. -/
theorem ChgT.fresh {B : Nat} {T : List TypeId} {w w' : World} (h : ChgT B T w w') {k : Nat} (hk : w.heap.size ≤ k) (j : Nat) (x : Value) : ChgT B T w (w'.setCell ⟨k, j, none⟩ x) :=
  ⟨h.os, h.tape, h.output, by simpa [World.setCell] using h.size, fun q hq hc => by rw [Below.heap_setCell _ _ _ _ (show q ≠ k by omega)]; exact h.block q hq hc⟩
theorem RdAt.other {w : World} {rb r : Nat} {t : List UInt8} (h : RdAt w rb t r) {k : Nat} (hk : k ≠ rb) (j : Nat) (x : Value) : RdAt (w.setCell ⟨k, j, none⟩ x) rb t r :=
  ⟨by rw [Below.heap_setCell _ _ _ _ (show rb ≠ k from fun e => hk e.symm)]; exact h.blk, h.le, h.len⟩

set_option maxHeartbeats 8000000 in
set_option maxRecDepth 100000 in
theorem readOne_c {w : World} {rb r : Nat} {t : List UInt8} (h : RdAt w rb t r) (c : UInt8) (hc : c ≠ 112) : Calls Tryd.prog 51 #[.pointer (some ⟨rb, 0, none⟩), .int .u8 c.toNat] w fun e w' => CmRet rb t (rdOne c (t.drop r)) e w' ∧ ChgT rb [91] w w' := by
  have HO : Hid (rdOne c (t.drop r) = (rdNum (t.drop r)).map fun x => (⟨c, x.1, 0⟩, x.2)) := rfl
  have b1 : ((c.toNat : Int) == 112) = false := by
    rw [beq_eq_false_iff_ne]
    intro e
    exact hc (UInt8.toNat_inj.1 (show c.toNat = 112 by omega))
  have h1 := fun W (hw : Below w.heap.size w W) => readNumber_c (h.below hw)
  replace h1 : Hid _ := h1
  generalize rdOne c (t.drop r) = ro at *
  have hr := h.blk
  clear h
  go_enter Tryd.func51, Tryd.ntmps51
  go_wp2_with fail
  refine Calls.mono (h1.out _ ((Below.refl _ _).alloc (Nat.le_refl _) _)) ?_
  rintro e w1 ⟨rfl, hr1, hch⟩
  have nb1 := hch.at (nb_alloc _ _ _) (by decide)
  obtain ⟨f1, f2⟩ := nb_facts nb1
  have HC : Hid (ChgT rb [91] w w1) := (ChgT.of_below ((Below.refl _ _).alloc (Nat.le_refl _) _)).trans hch
  replace hr1 : Hid _ := hr1
  have hlt : w.heap.size ≠ rb := fun e => by
    have := (Array.getElem?_eq_some_iff.1 hr).1
    omega
  have HV := dgv_range (t.drop r)
  have HN : Hid (∀ b, decide (0 < (dgOf (t.drop r)).length) = b → ro = if b = true then some (⟨c, valOf (dgOf (t.drop r)), 0⟩, (t.drop r).drop (dgOf (t.drop r)).length) else none) := by
    intro b hb
    rw [HO.out]
    cases b with
    | false => rw [rdNum_no hb]; rfl
    | true => rw [rdNum_yes hb]; rfl
  generalize decide (0 < (dgOf (t.drop r)).length) = gd at *
  generalize valOf (dgOf (t.drop r)) = V at *
  clear h1 hch HO hr nb1
  cases gd with
  | false =>
    go_wp2
    refine bodyPost_ret (v := .tuple #[cm0, .bool false]) (by simp [results, Tryd.results51, go_sem, f1]) rfl ⟨?_, ((HC.out.fresh (Nat.le_refl _) _ _).fresh (Nat.le_refl _) _ _).fresh (Nat.le_refl _) _ _⟩
    rw [HN.out _ rfl]
    rfl
  | true =>
    go_wp2
    refine bodyPost_ret (v := .tuple #[.agg #[.int .u8 c.toNat, I V, I 0], .bool true]) (by simp [results, Tryd.results51, go_sem, f1]) rfl ⟨?_, ((HC.out.fresh (Nat.le_refl _) _ _).fresh (Nat.le_refl _) _ _).fresh (Nat.le_refl _) _ _⟩
    rw [HN.out _ rfl]
    exact ⟨rfl, _, ((hr1.out.other hlt _ _).other hlt _ _).other hlt _ _, by rw [List.drop_drop]⟩

set_option maxHeartbeats 8000000 in
set_option maxRecDepth 100000 in
theorem readPut_c {w : World} {rb r : Nat} {t : List UInt8} (h : RdAt w rb t r) : Calls Tryd.prog 51 #[.pointer (some ⟨rb, 0, none⟩), .int .u8 112] w fun e w' => CmRet rb t (rdPut (t.drop r)) e w' ∧ ChgT rb [91] w w' := by
  have HO : Hid (rdPut (t.drop r) = if (t.drop r).head? = some 45 then (rdNum (t.drop r).tail).map fun x => (⟨112, -x.1, 0⟩, x.2) else rdOne 112 (t.drop r)) := rfl
  have h0 := fun W (hw : Below w.heap.size w W) => skip_c (h.below hw) 45
  replace h0 : Hid _ := h0
  generalize rdPut (t.drop r) = ro at *
  have hr := h.blk
  clear h
  go_enter Tryd.func51, Tryd.ntmps51
  go_wp2_with fail
  refine Calls.mono (h0.out _ ((Below.refl _ _).alloc (Nat.le_refl _) _)) ?_
  rintro e w0 ⟨rfl, hr0, hch0⟩
  have nb0 := hch0.at (nb_alloc _ _ _) (by decide)
  have HC0 : Hid (ChgT rb [91] w w0) := (ChgT.of_below ((Below.refl _ _).alloc (Nat.le_refl _) _)).trans hch0
  have hlt : w.heap.size ≠ rb := fun e => by
    have := (Array.getElem?_eq_some_iff.1 hr).1
    omega
  generalize hr2 : (if (t.drop r).head? = some 45 then r + 1 else r) = r2 at hr0
  have h1 := readNumber_c hr0
  replace h1 : Hid _ := h1
  have HN : Hid (∀ b, decide (0 < (dgOf (t.drop r2)).length) = b → ro = if b = true then some (⟨112, if (t.drop r).head? = some 45 then - valOf (dgOf (t.drop r2)) else valOf (dgOf (t.drop r2)), 0⟩, (t.drop r2).drop (dgOf (t.drop r2)).length) else none) := by
    intro b hb
    rw [HO.out]
    by_cases h5 : (t.drop r).head? = some 45
    · rw [if_pos h5] at hr2 ⊢
      rw [if_pos h5, List.tail_drop, hr2]
      cases b with
      | false => rw [rdNum_no hb]; rfl
      | true => rw [rdNum_yes hb]; rfl
    · rw [if_neg h5] at hr2 ⊢
      rw [if_neg h5, hr2]
      unfold rdOne
      cases b with
      | false => rw [rdNum_no hb]; rfl
      | true => rw [rdNum_yes hb]; rfl
  have HV := dgv_range (t.drop r2)
  by_cases h5 : (t.drop r).head? = some 45
  · rw [decide_eq_true h5]
    simp only [if_pos h5] at HN
    clear h0 hr0 hch0 HO h5 hr2
    go_wp2_with fail
    refine Calls.mono h1.out ?_
    rintro e w1 ⟨rfl, hr1, hch⟩
    have nb1 := hch.at nb0 (by decide)
    obtain ⟨f1, f2⟩ := nb_facts nb1
    have HC : Hid (ChgT rb [91] w w1) := HC0.out.trans hch
    replace hr1 : Hid _ := hr1
    generalize decide (0 < (dgOf (t.drop r2)).length) = gd at *
    generalize valOf (dgOf (t.drop r2)) = V at *
    clear h1 hch hr nb1 nb0 HC0
    cases gd with
    | false =>
      go_wp2
      refine bodyPost_ret (v := .tuple #[cm0, .bool false]) (by simp [results, Tryd.results51, go_sem, f1]) rfl ⟨?_, ((HC.out.fresh (Nat.le_refl _) _ _).fresh (Nat.le_refl _) _ _).fresh (Nat.le_refl _) _ _⟩
      rw [HN.out _ rfl]
      rfl
    | true =>
      go_wp2
      refine bodyPost_ret (v := .tuple #[.agg #[.int .u8 112, I (-V), I 0], .bool true]) (by simp [results, Tryd.results51, go_sem, f1]) rfl ⟨?_, ((HC.out.fresh (Nat.le_refl _) _ _).fresh (Nat.le_refl _) _ _).fresh (Nat.le_refl _) _ _⟩
      rw [HN.out _ rfl]
      exact ⟨rfl, _, ((hr1.out.other hlt _ _).other hlt _ _).other hlt _ _, by rw [List.drop_drop]⟩
  · rw [decide_eq_false h5]
    simp only [if_neg h5] at HN
    clear h0 hr0 hch0 HO h5 hr2
    go_wp2_with fail
    refine Calls.mono h1.out ?_
    rintro e w1 ⟨rfl, hr1, hch⟩
    have nb1 := hch.at nb0 (by decide)
    obtain ⟨f1, f2⟩ := nb_facts nb1
    have HC : Hid (ChgT rb [91] w w1) := HC0.out.trans hch
    replace hr1 : Hid _ := hr1
    generalize decide (0 < (dgOf (t.drop r2)).length) = gd at *
    generalize valOf (dgOf (t.drop r2)) = V at *
    clear h1 hch hr nb1 nb0 HC0
    cases gd with
    | false =>
      go_wp2
      refine bodyPost_ret (v := .tuple #[cm0, .bool false]) (by simp [results, Tryd.results51, go_sem, f1]) rfl ⟨?_, ((HC.out.fresh (Nat.le_refl _) _ _).fresh (Nat.le_refl _) _ _).fresh (Nat.le_refl _) _ _⟩
      rw [HN.out _ rfl]
      rfl
    | true =>
      go_wp2
      refine bodyPost_ret (v := .tuple #[.agg #[.int .u8 112, I V, I 0], .bool true]) (by simp [results, Tryd.results51, go_sem, f1]) rfl ⟨?_, ((HC.out.fresh (Nat.le_refl _) _ _).fresh (Nat.le_refl _) _ _).fresh (Nat.le_refl _) _ _⟩
      rw [HN.out _ rfl]
      exact ⟨rfl, _, ((hr1.out.other hlt _ _).other hlt _ _).other hlt _ _, by rw [List.drop_drop]⟩

set_option maxHeartbeats 8000000 in
set_option maxRecDepth 100000 in
theorem readTwo_c {w : World} {rb r : Nat} {t : List UInt8} (h : RdAt w rb t r) (c : UInt8) : Calls Tryd.prog 52 #[.pointer (some ⟨rb, 0, none⟩), .int .u8 c.toNat] w fun e w' => CmRet rb t (rdTwo c (t.drop r)) e w' ∧ ChgT rb [91] w w' := by
  have HO : Hid (rdTwo c (t.drop r) = (rdNum (t.drop r)).bind fun x => if x.2.head? = some 44 then (rdNum x.2.tail).map fun y => (⟨c, x.1, y.1⟩, y.2) else none) := rfl
  have h1 := fun W (hw : Below w.heap.size w W) => readNumber_c (h.below hw)
  replace h1 : Hid _ := h1
  generalize rdTwo c (t.drop r) = ro at *
  have hr := h.blk
  clear h
  go_enter Tryd.func52, Tryd.ntmps52
  go_wp2_with fail
  refine Calls.mono (h1.out _ ((Below.refl _ _).alloc (Nat.le_refl _) _)) ?_
  rintro e w1 ⟨rfl, hr1, hch⟩
  have nb1 := hch.at (nb_alloc _ _ _) (by decide)
  obtain ⟨f1, f2⟩ := nb_facts nb1
  have HC : Hid (ChgT rb [91] w w1) := (ChgT.of_below ((Below.refl _ _).alloc (Nat.le_refl _) _)).trans hch
  have hlt : w.heap.size ≠ rb := fun e => by
    have := (Array.getElem?_eq_some_iff.1 hr).1
    omega
  have HV := dgv_range (t.drop r)
  cases hg : decide (0 < (dgOf (t.drop r)).length) with
  | false =>
    have HN : Hid (ro = none) := by show _ = _; rw [HO.out, rdNum_no hg]; rfl
    generalize valOf (dgOf (t.drop r)) = V at *
    clear h1 hch HO hr nb1 hr1 hg
    go_wp2
    refine bodyPost_ret (v := .tuple #[cm0, .bool false]) (by simp [results, Tryd.results52, go_sem, f1]) rfl ⟨?_, ((HC.out.fresh (Nat.le_refl _) _ _).fresh (Nat.le_refl _) _ _).fresh (Nat.le_refl _) _ _⟩
    rw [HN.out]
    rfl
  | true =>
    have HN : Hid (ro = if (t.drop (r + (dgOf (t.drop r)).length)).head? = some 44 then (rdNum (t.drop (r + (dgOf (t.drop r)).length + 1))).map fun y => (⟨c, valOf (dgOf (t.drop r)), y.1⟩, y.2) else none) := by
      show _ = _
      rw [HO.out, rdNum_yes hg]
      simp only [Option.bind_some, List.drop_drop, List.tail_drop]
    have h2 := skip_c hr1 44
    generalize valOf (dgOf (t.drop r)) = V at *
    generalize r + (dgOf (t.drop r)).length = r1 at *
    replace h2 : Hid _ := h2
    clear h1 hch HO hr hr1 hg f1 f2
    go_wp2_with fail
    refine Calls.mono h2.out ?_
    rintro e w2 ⟨rfl, hr2, hch2⟩
    have nb2 := hch2.at nb1 (by decide)
    replace HC : Hid (ChgT rb [91] w w2) := HC.out.trans hch2
    obtain ⟨f1, f2⟩ := nb_facts nb2
    by_cases h4 : (t.drop r1).head? = some 44
    · rw [decide_eq_true h4]
      rw [if_pos h4] at hr2 HN
      have h3 := readNumber_c hr2
      replace h3 : Hid _ := h3
      clear h2 hch2 hr2 nb1 h4 f1 f2
      go_wp2_with fail
      refine Calls.mono h3.out ?_
      rintro e w3 ⟨rfl, hr3, hch3⟩
      have nb3 := hch3.at nb2 (by decide)
      obtain ⟨f1, f2⟩ := nb_facts nb3
      replace HC : Hid (ChgT rb [91] w w3) := HC.out.trans hch3
      have HM : Hid (∀ b, decide (0 < (dgOf (t.drop (r1 + 1))).length) = b → ro = if b = true then some (⟨c, V, valOf (dgOf (t.drop (r1 + 1)))⟩, (t.drop (r1 + 1)).drop (dgOf (t.drop (r1 + 1))).length) else none) := by
        intro b hb
        rw [HN.out]
        cases b with
        | false => rw [rdNum_no hb]; rfl
        | true => rw [rdNum_yes hb]; rfl
      have HV2 := dgv_range (t.drop (r1 + 1))
      replace hr3 : Hid _ := hr3
      generalize decide (0 < (dgOf (t.drop (r1 + 1))).length) = gd at *
      generalize valOf (dgOf (t.drop (r1 + 1))) = V2 at *
      clear h3 hch3 nb2 nb3 HN
      cases gd with
      | false =>
        go_wp2
        refine bodyPost_ret (v := .tuple #[cm0, .bool false]) (by simp [results, Tryd.results52, go_sem, f1]) rfl ⟨?_, ((HC.out.fresh (Nat.le_refl _) _ _).fresh (Nat.le_refl _) _ _).fresh (Nat.le_refl _) _ _⟩
        rw [HM.out _ rfl]
        rfl
      | true =>
        go_wp2
        refine bodyPost_ret (v := .tuple #[.agg #[.int .u8 c.toNat, I V, I V2], .bool true]) (by simp [results, Tryd.results52, go_sem, f1]) rfl ⟨?_, ((HC.out.fresh (Nat.le_refl _) _ _).fresh (Nat.le_refl _) _ _).fresh (Nat.le_refl _) _ _⟩
        rw [HM.out _ rfl]
        exact ⟨rfl, _, ((hr3.out.other hlt _ _).other hlt _ _).other hlt _ _, by rw [List.drop_drop]⟩
    · rw [decide_eq_false h4]
      rw [if_neg h4] at HN
      clear h2 hch2 hr2 nb1 h4
      go_wp2
      refine bodyPost_ret (v := .tuple #[cm0, .bool false]) (by simp [results, Tryd.results52, go_sem, f1]) rfl ⟨?_, ((HC.out.fresh (Nat.le_refl _) _ _).fresh (Nat.le_refl _) _ _).fresh (Nat.le_refl _) _ _⟩
      rw [HN.out]
      rfl

theorem CmRet.form {rb : Nat} {t : List UInt8} {o : Option (Cm × List UInt8)} {e : Ending} {w' : World} (h : CmRet rb t o e w') : ∃ (x : Cm) (g : Bool), e = .returned (.tuple #[.agg #[.int .u8 x.ch.toNat, I x.a, I x.b], .bool g]) ∧ (e = .returned (.tuple #[.agg #[.int .u8 x.ch.toNat, I x.a, I x.b], .bool g]) → CmRet rb t o e w') := by
  cases o with
  | none => exact ⟨⟨0, 0, 0⟩, false, h, fun _ => h⟩
  | some x => exact ⟨x.1, true, h.1, fun _ => h⟩
theorem CmRet.other {rb : Nat} {t : List UInt8} {o : Option (Cm × List UInt8)} {e : Ending} {w' : World} (h : CmRet rb t o e w') {k : Nat} (hk : k ≠ rb) (j : Nat) (x : Value) : CmRet rb t o e (w'.setCell ⟨k, j, none⟩ x) := by
  cases o with
  | none => exact h
  | some y =>
    obtain ⟨h1, r', h2, h3⟩ := h
    exact ⟨h1, r', h2.other hk j x, h3⟩

end Go.Proofs.YtjnmpejcegmkhabDoor

namespace Go.Proofs.YtjnmpejcegmkhabDoor
open Go.RowKit

set_option maxHeartbeats 4000000 in
theorem playSpawn_c {w : World} {B : Nat} {c : Conf} {L : Lay} {P : PLay} (h : TSt w B c L P) (o : Op3) (ho : InB o.val) :
    Calls Tryd.prog 35 #[.pointer (some ⟨P.tb, 0, none⟩), opV o] w fun e w' => e = .returned (S (numT (spN c L o).1 (spN c L o).2.1)) ∧ TRet B c P (spN c L o).2.2 w w' := by
  have h1 := fun W (hW : Below w.heap.size w W) => tspawn_c (h.below hW) o ho
  obtain ⟨i1, i2⟩ := spN_in h.rel o
  have h2 : Hid (∀ W, Tab W → Calls Tryd.prog 36 #[I (spN c L o).1, I (spN c L o).2.1] W fun x w' => x = .returned (S (numT (spN c L o).1 (spN c L o).2.1)) ∧ Below W.heap.size W w') := fun W hW => numberText_c _ _ i1.i6 i2.i6 hW
  replace h1 : Hid _ := h1
  have HL : Hid (∃ L', L' = (spN c L o).2.2) := ⟨_, rfl⟩
  obtain ⟨L', hL'⟩ := HL.out
  rw [← hL'] at h1 ⊢
  generalize numT (spN c L o).1 (spN c L o).2.1 = t at *
  generalize (spN c L o).1 = n at *
  generalize (spN c L o).2.1 = er at *
  clear hL' HL i1 i2 ho
  unfold opV at h1 ⊢
  have hB0 : Hid (Below w.heap.size w (w.alloc (.cells #[I o.kind, I o.val, I o.node] 58))) := (Below.refl _ _).alloc (Nat.le_refl _) _
  clear h
  go_enter Tryd.func35, Tryd.ntmps35
  go_wp2_with fail
  refine Calls.mono (h1.out _ hB0.out) ?_
  rintro e w1 ⟨rfl, hr⟩
  have h3 := h2.out w1 hr.tab
  replace h3 : Hid _ := h3
  replace hr : Hid _ := hr
  clear h1 h2
  go_wp2_with fail
  refine Calls.mono h3.out ?_
  rintro e w2 ⟨rfl, hb⟩
  go_wp2
  go_ret
  exact ⟨rfl, (TRet.before hB0.out hr.out).then hb⟩

set_option maxHeartbeats 4000000 in
theorem play_105 {w : World} {B : Nat} {c : Conf} {L : Lay} {P : PLay} (h : TSt w B c L P) (a b : Int) :
    Calls Tryd.prog 22 #[.pointer (some ⟨P.tb, 0, none⟩), .agg #[.int .u8 105, I a, I b]] w fun e w' => e = .returned (S (ansOf c L ⟨105, a, b⟩).1) ∧ TRet B c P (ansOf c L ⟨105, a, b⟩).2 w w' := by
  have e : ansOf c L ⟨105, a, b⟩ = (numT (spN c L (⟨0, 0, 0⟩ : Op3)).1 (spN c L (⟨0, 0, 0⟩ : Op3)).2.1, (spN c L (⟨0, 0, 0⟩ : Op3)).2.2) := rfl
  have h1 : Hid (∀ W, Below w.heap.size w W → Calls Tryd.prog 35 #[.pointer (some ⟨P.tb, 0, none⟩), .agg #[I (Op3.kind (⟨0, 0, 0⟩ : Op3)), I (Op3.val (⟨0, 0, 0⟩ : Op3)), I (Op3.node (⟨0, 0, 0⟩ : Op3))]] W fun e w' => e = .returned (S (numT (spN c L (⟨0, 0, 0⟩ : Op3)).1 (spN c L (⟨0, 0, 0⟩ : Op3)).2.1)) ∧ TRet B c P (spN c L (⟨0, 0, 0⟩ : Op3)).2.2 W w') := fun W hW => playSpawn_c (h.below hW) (⟨0, 0, 0⟩ : Op3) (inbN (k := 0) (by omega) (by omega))
  rw [e]
  dsimp only at h1 ⊢
  obtain ⟨L', hL'⟩ : ∃ L', L' = (spN c L (⟨0, 0, 0⟩ : Op3)).2.2 := ⟨_, rfl⟩
  rw [← hL'] at h1 ⊢
  generalize numT (spN c L (⟨0, 0, 0⟩ : Op3)).1 (spN c L (⟨0, 0, 0⟩ : Op3)).2.1 = t at *
  have hB0 : Hid (Below w.heap.size w (w.alloc (.cells #[.int .u8 105, I a, I b] 67))) := (Below.refl _ _).alloc (Nat.le_refl _) _
  obtain ⟨f1, _⟩ := nb_facts (nb_alloc w #[.int .u8 105, I a, I b] 67)
  have c0 := f1 0
  have c1 := f1 1
  simp at c0 c1
  clear h hL' e f1
  go_enter Tryd.func22, Tryd.ntmps22
  go_wp2_with fail
  refine Calls.mono (h1.out _ hB0.out) ?_
  rintro e w1 ⟨rfl, hr⟩
  replace hr : Hid _ := hr
  go_wp2
  go_ret
  exact ⟨rfl, TRet.before hB0.out hr.out⟩

set_option maxHeartbeats 4000000 in
theorem play_103 {w : World} {B : Nat} {c : Conf} {L : Lay} {P : PLay} (h : TSt w B c L P) (a b : Int) :
    Calls Tryd.prog 22 #[.pointer (some ⟨P.tb, 0, none⟩), .agg #[.int .u8 103, I a, I b]] w fun e w' => e = .returned (S (ansOf c L ⟨103, a, b⟩).1) ∧ TRet B c P (ansOf c L ⟨103, a, b⟩).2 w w' := by
  have e : ansOf c L ⟨103, a, b⟩ = (numT (spN c L (⟨2, 0, 0⟩ : Op3)).1 (spN c L (⟨2, 0, 0⟩ : Op3)).2.1, (spN c L (⟨2, 0, 0⟩ : Op3)).2.2) := rfl
  have h1 : Hid (∀ W, Below w.heap.size w W → Calls Tryd.prog 35 #[.pointer (some ⟨P.tb, 0, none⟩), .agg #[I (Op3.kind (⟨2, 0, 0⟩ : Op3)), I (Op3.val (⟨2, 0, 0⟩ : Op3)), I (Op3.node (⟨2, 0, 0⟩ : Op3))]] W fun e w' => e = .returned (S (numT (spN c L (⟨2, 0, 0⟩ : Op3)).1 (spN c L (⟨2, 0, 0⟩ : Op3)).2.1)) ∧ TRet B c P (spN c L (⟨2, 0, 0⟩ : Op3)).2.2 W w') := fun W hW => playSpawn_c (h.below hW) (⟨2, 0, 0⟩ : Op3) (inbN (k := 0) (by omega) (by omega))
  rw [e]
  dsimp only at h1 ⊢
  obtain ⟨L', hL'⟩ : ∃ L', L' = (spN c L (⟨2, 0, 0⟩ : Op3)).2.2 := ⟨_, rfl⟩
  rw [← hL'] at h1 ⊢
  generalize numT (spN c L (⟨2, 0, 0⟩ : Op3)).1 (spN c L (⟨2, 0, 0⟩ : Op3)).2.1 = t at *
  have hB0 : Hid (Below w.heap.size w (w.alloc (.cells #[.int .u8 103, I a, I b] 67))) := (Below.refl _ _).alloc (Nat.le_refl _) _
  obtain ⟨f1, _⟩ := nb_facts (nb_alloc w #[.int .u8 103, I a, I b] 67)
  have c0 := f1 0
  have c1 := f1 1
  simp at c0 c1
  clear h hL' e f1
  go_enter Tryd.func22, Tryd.ntmps22
  go_wp2_with fail
  refine Calls.mono (h1.out _ hB0.out) ?_
  rintro e w1 ⟨rfl, hr⟩
  replace hr : Hid _ := hr
  go_wp2
  go_ret
  exact ⟨rfl, TRet.before hB0.out hr.out⟩

set_option maxHeartbeats 4000000 in
theorem play_112 {w : World} {B : Nat} {c : Conf} {L : Lay} {P : PLay} (h : TSt w B c L P) (a b : Int) (ha : InB a) :
    Calls Tryd.prog 22 #[.pointer (some ⟨P.tb, 0, none⟩), .agg #[.int .u8 112, I a, I b]] w fun e w' => e = .returned (S (ansOf c L ⟨112, a, b⟩).1) ∧ TRet B c P (ansOf c L ⟨112, a, b⟩).2 w w' := by
  have e : ansOf c L ⟨112, a, b⟩ = (numT (spN c L (⟨1, a, 0⟩ : Op3)).1 (spN c L (⟨1, a, 0⟩ : Op3)).2.1, (spN c L (⟨1, a, 0⟩ : Op3)).2.2) := rfl
  have h1 : Hid (∀ W, Below w.heap.size w W → Calls Tryd.prog 35 #[.pointer (some ⟨P.tb, 0, none⟩), .agg #[I (Op3.kind (⟨1, a, 0⟩ : Op3)), I (Op3.val (⟨1, a, 0⟩ : Op3)), I (Op3.node (⟨1, a, 0⟩ : Op3))]] W fun e w' => e = .returned (S (numT (spN c L (⟨1, a, 0⟩ : Op3)).1 (spN c L (⟨1, a, 0⟩ : Op3)).2.1)) ∧ TRet B c P (spN c L (⟨1, a, 0⟩ : Op3)).2.2 W w') := fun W hW => playSpawn_c (h.below hW) (⟨1, a, 0⟩ : Op3) ha
  rw [e]
  dsimp only at h1 ⊢
  obtain ⟨L', hL'⟩ : ∃ L', L' = (spN c L (⟨1, a, 0⟩ : Op3)).2.2 := ⟨_, rfl⟩
  rw [← hL'] at h1 ⊢
  generalize numT (spN c L (⟨1, a, 0⟩ : Op3)).1 (spN c L (⟨1, a, 0⟩ : Op3)).2.1 = t at *
  have hB0 : Hid (Below w.heap.size w (w.alloc (.cells #[.int .u8 112, I a, I b] 67))) := (Below.refl _ _).alloc (Nat.le_refl _) _
  obtain ⟨f1, _⟩ := nb_facts (nb_alloc w #[.int .u8 112, I a, I b] 67)
  have c0 := f1 0
  have c1 := f1 1
  simp at c0 c1
  clear h hL' e f1
  go_enter Tryd.func22, Tryd.ntmps22
  go_wp2_with fail
  refine Calls.mono (h1.out _ hB0.out) ?_
  rintro e w1 ⟨rfl, hr⟩
  replace hr : Hid _ := hr
  go_wp2
  go_ret
  exact ⟨rfl, TRet.before hB0.out hr.out⟩

set_option maxHeartbeats 4000000 in
theorem play_102 {w : World} {B : Nat} {c : Conf} {L : Lay} {P : PLay} (h : TSt w B c L P) (a b : Int) :
    Calls Tryd.prog 22 #[.pointer (some ⟨P.tb, 0, none⟩), .agg #[.int .u8 102, I a, I b]] w fun e w' => e = .returned (S (ansOf c L ⟨102, a, b⟩).1) ∧ TRet B c P (ansOf c L ⟨102, a, b⟩).2 w w' := by
  have e : ansOf c L ⟨102, a, b⟩ = (numT (spN c L (⟨3, 0, a⟩ : Op3)).1 (spN c L (⟨3, 0, a⟩ : Op3)).2.1, (spN c L (⟨3, 0, a⟩ : Op3)).2.2) := rfl
  have h1 : Hid (∀ W, Below w.heap.size w W → Calls Tryd.prog 35 #[.pointer (some ⟨P.tb, 0, none⟩), .agg #[I (Op3.kind (⟨3, 0, a⟩ : Op3)), I (Op3.val (⟨3, 0, a⟩ : Op3)), I (Op3.node (⟨3, 0, a⟩ : Op3))]] W fun e w' => e = .returned (S (numT (spN c L (⟨3, 0, a⟩ : Op3)).1 (spN c L (⟨3, 0, a⟩ : Op3)).2.1)) ∧ TRet B c P (spN c L (⟨3, 0, a⟩ : Op3)).2.2 W w') := fun W hW => playSpawn_c (h.below hW) (⟨3, 0, a⟩ : Op3) (inbN (k := 0) (by omega) (by omega))
  rw [e]
  dsimp only at h1 ⊢
  obtain ⟨L', hL'⟩ : ∃ L', L' = (spN c L (⟨3, 0, a⟩ : Op3)).2.2 := ⟨_, rfl⟩
  rw [← hL'] at h1 ⊢
  generalize numT (spN c L (⟨3, 0, a⟩ : Op3)).1 (spN c L (⟨3, 0, a⟩ : Op3)).2.1 = t at *
  have hB0 : Hid (Below w.heap.size w (w.alloc (.cells #[.int .u8 102, I a, I b] 67))) := (Below.refl _ _).alloc (Nat.le_refl _) _
  obtain ⟨f1, _⟩ := nb_facts (nb_alloc w #[.int .u8 102, I a, I b] 67)
  have c0 := f1 0
  have c1 := f1 1
  simp at c0 c1
  clear h hL' e f1
  go_enter Tryd.func22, Tryd.ntmps22
  go_wp2_with fail
  refine Calls.mono (h1.out _ hB0.out) ?_
  rintro e w1 ⟨rfl, hr⟩
  replace hr : Hid _ := hr
  go_wp2
  go_ret
  exact ⟨rfl, TRet.before hB0.out hr.out⟩

set_option maxHeartbeats 4000000 in
theorem play_117 {w : World} {B : Nat} {c : Conf} {L : Lay} {P : PLay} (h : TSt w B c L P) (a b : Int) :
    Calls Tryd.prog 22 #[.pointer (some ⟨P.tb, 0, none⟩), .agg #[.int .u8 117, I a, I b]] w fun e w' => e = .returned (S (ansOf c L ⟨117, a, b⟩).1) ∧ TRet B c P (ansOf c L ⟨117, a, b⟩).2 w w' := by
  have e : ansOf c L ⟨117, a, b⟩ = (numT (spN c L (⟨4, 0, a⟩ : Op3)).1 (spN c L (⟨4, 0, a⟩ : Op3)).2.1, (spN c L (⟨4, 0, a⟩ : Op3)).2.2) := rfl
  have h1 : Hid (∀ W, Below w.heap.size w W → Calls Tryd.prog 35 #[.pointer (some ⟨P.tb, 0, none⟩), .agg #[I (Op3.kind (⟨4, 0, a⟩ : Op3)), I (Op3.val (⟨4, 0, a⟩ : Op3)), I (Op3.node (⟨4, 0, a⟩ : Op3))]] W fun e w' => e = .returned (S (numT (spN c L (⟨4, 0, a⟩ : Op3)).1 (spN c L (⟨4, 0, a⟩ : Op3)).2.1)) ∧ TRet B c P (spN c L (⟨4, 0, a⟩ : Op3)).2.2 W w') := fun W hW => playSpawn_c (h.below hW) (⟨4, 0, a⟩ : Op3) (inbN (k := 0) (by omega) (by omega))
  rw [e]
  dsimp only at h1 ⊢
  obtain ⟨L', hL'⟩ : ∃ L', L' = (spN c L (⟨4, 0, a⟩ : Op3)).2.2 := ⟨_, rfl⟩
  rw [← hL'] at h1 ⊢
  generalize numT (spN c L (⟨4, 0, a⟩ : Op3)).1 (spN c L (⟨4, 0, a⟩ : Op3)).2.1 = t at *
  have hB0 : Hid (Below w.heap.size w (w.alloc (.cells #[.int .u8 117, I a, I b] 67))) := (Below.refl _ _).alloc (Nat.le_refl _) _
  obtain ⟨f1, _⟩ := nb_facts (nb_alloc w #[.int .u8 117, I a, I b] 67)
  have c0 := f1 0
  have c1 := f1 1
  simp at c0 c1
  clear h hL' e f1
  go_enter Tryd.func22, Tryd.ntmps22
  go_wp2_with fail
  refine Calls.mono (h1.out _ hB0.out) ?_
  rintro e w1 ⟨rfl, hr⟩
  replace hr : Hid _ := hr
  go_wp2
  go_ret
  exact ⟨rfl, TRet.before hB0.out hr.out⟩

set_option maxHeartbeats 4000000 in
theorem play_115 {w : World} {B : Nat} {c : Conf} {L : Lay} {P : PLay} (h : TSt w B c L P) (a b : Int) :
    Calls Tryd.prog 22 #[.pointer (some ⟨P.tb, 0, none⟩), .agg #[.int .u8 115, I a, I b]] w fun e w' => e = .returned (S (ansOf c L ⟨115, a, b⟩).1) ∧ TRet B c P (ansOf c L ⟨115, a, b⟩).2 w w' := by
  have e : ansOf c L ⟨115, a, b⟩ = (numT (stN L a b).1 (stN L a b).2.1, (stN L a b).2.2) := rfl
  have h1 : Hid (∀ W, Below w.heap.size w W → Calls Tryd.prog 17 #[.pointer (some ⟨P.tb, 0, none⟩), I a, I b] W fun e w' => e = .returned (.tuple #[I (stN L a b).1, I (stN L a b).2.1]) ∧ TRet B c P (stN L a b).2.2 W w') := fun W hW => tstep_c (h.below hW) a b
  obtain ⟨i1, i2⟩ := stN_in h.rel a b
  have h2 : Hid (∀ W, Tab W → Calls Tryd.prog 36 #[I (stN L a b).1, I (stN L a b).2.1] W fun x w' => x = .returned (S (numT (stN L a b).1 (stN L a b).2.1)) ∧ Below W.heap.size W w') := fun W hW => numberText_c _ _ i1.i6 i2.i6 hW
  rw [e]
  dsimp only
  obtain ⟨L', hL'⟩ : ∃ L', L' = (stN L a b).2.2 := ⟨_, rfl⟩
  rw [← hL'] at h1 ⊢
  generalize numT (stN L a b).1 (stN L a b).2.1 = t at *
  generalize (stN L a b).1 = n at *
  generalize (stN L a b).2.1 = er at *
  have hB0 : Hid (Below w.heap.size w (w.alloc (.cells #[.int .u8 115, I a, I b] 67))) := (Below.refl _ _).alloc (Nat.le_refl _) _
  obtain ⟨f1, _⟩ := nb_facts (nb_alloc w #[.int .u8 115, I a, I b] 67)
  have c0 := f1 0
  have c1 := f1 1
  have c2 := f1 2
  simp at c0 c1 c2
  clear h hL' e f1 i1 i2
  go_enter Tryd.func22, Tryd.ntmps22
  go_wp2_with fail
  refine Calls.mono (h1.out _ hB0.out) ?_
  rintro e w1 ⟨rfl, hr⟩
  have h3 := h2.out w1 hr.tab
  replace h3 : Hid _ := h3
  replace hr : Hid _ := hr
  clear h1 h2
  go_wp2_with fail
  refine Calls.mono h3.out ?_
  rintro e w2 ⟨rfl, hb⟩
  go_wp2
  go_ret
  exact ⟨rfl, (TRet.before hB0.out hr.out).then hb⟩

set_option maxHeartbeats 4000000 in
theorem play_114 {w : World} {B : Nat} {c : Conf} {L : Lay} {P : PLay} (h : TSt w B c L P) (a b : Int) :
    Calls Tryd.prog 22 #[.pointer (some ⟨P.tb, 0, none⟩), .agg #[.int .u8 114, I a, I b]] w fun e w' => e = .returned (S (ansOf c L ⟨114, a, b⟩).1) ∧ TRet B c P (ansOf c L ⟨114, a, b⟩).2 w w' := by
  have e : ansOf c L ⟨114, a, b⟩ = (numT (rsN L a b).1 (rsN L a b).2.1, (rsN L a b).2.2) := rfl
  have h1 : Hid (∀ W, Below w.heap.size w W → Calls Tryd.prog 18 #[.pointer (some ⟨P.tb, 0, none⟩), I a, I b] W fun e w' => e = .returned (.tuple #[I (rsN L a b).1, I (rsN L a b).2.1]) ∧ TRet B c P (rsN L a b).2.2 W w') := fun W hW => trest_c (h.below hW) a b
  obtain ⟨i1, i2⟩ := rsN_in h.rel a b
  have h2 : Hid (∀ W, Tab W → Calls Tryd.prog 36 #[I (rsN L a b).1, I (rsN L a b).2.1] W fun x w' => x = .returned (S (numT (rsN L a b).1 (rsN L a b).2.1)) ∧ Below W.heap.size W w') := fun W hW => numberText_c _ _ i1.i6 i2.i6 hW
  rw [e]
  dsimp only
  obtain ⟨L', hL'⟩ : ∃ L', L' = (rsN L a b).2.2 := ⟨_, rfl⟩
  rw [← hL'] at h1 ⊢
  generalize numT (rsN L a b).1 (rsN L a b).2.1 = t at *
  generalize (rsN L a b).1 = n at *
  generalize (rsN L a b).2.1 = er at *
  have hB0 : Hid (Below w.heap.size w (w.alloc (.cells #[.int .u8 114, I a, I b] 67))) := (Below.refl _ _).alloc (Nat.le_refl _) _
  obtain ⟨f1, _⟩ := nb_facts (nb_alloc w #[.int .u8 114, I a, I b] 67)
  have c0 := f1 0
  have c1 := f1 1
  have c2 := f1 2
  simp at c0 c1 c2
  clear h hL' e f1 i1 i2
  go_enter Tryd.func22, Tryd.ntmps22
  go_wp2_with fail
  refine Calls.mono (h1.out _ hB0.out) ?_
  rintro e w1 ⟨rfl, hr⟩
  have h3 := h2.out w1 hr.tab
  replace h3 : Hid _ := h3
  replace hr : Hid _ := hr
  clear h1 h2
  go_wp2_with fail
  refine Calls.mono h3.out ?_
  rintro e w2 ⟨rfl, hb⟩
  go_wp2
  go_ret
  exact ⟨rfl, (TRet.before hB0.out hr.out).then hb⟩

set_option maxHeartbeats 4000000 in
theorem play_113 {w : World} {B : Nat} {c : Conf} {L : Lay} {P : PLay} (h : TSt w B c L P) (a b : Int) :
    Calls Tryd.prog 22 #[.pointer (some ⟨P.tb, 0, none⟩), .agg #[.int .u8 113, I a, I b]] w fun e w' => e = .returned (S (ansOf c L ⟨113, a, b⟩).1) ∧ TRet B c P (ansOf c L ⟨113, a, b⟩).2 w w' := by
  have e : ansOf c L ⟨113, a, b⟩ = (procT (prN L a).1 (prN L a).2, L) := rfl
  have h1 : Hid (∀ W, Below w.heap.size w W → Calls Tryd.prog 15 #[.pointer (some ⟨P.tb, 0, none⟩), I a] W fun e w' => e = .returned (.tuple #[.agg #[I (prN L a).1.1, I (prN L a).1.2.1, I (prN L a).1.2.2], I (prN L a).2]) ∧ Below W.heap.size W w') := fun W hW => tproc_c (h.below hW) a
  obtain ⟨i1, i2, i3, i4⟩ := prN_in h.vb h.rel a
  have h2 : Hid (∀ W, Tab W → Calls Tryd.prog 37 #[.agg #[I (prN L a).1.1, I (prN L a).1.2.1, I (prN L a).1.2.2], I (prN L a).2] W fun x w' => x = .returned (S (procT (prN L a).1 (prN L a).2)) ∧ Below W.heap.size W w') := fun W hW => procText_c _ _ i1.i6 i2.i6 i3.i6 i4.i6 hW
  rw [e]
  dsimp only
  have HR : Hid (∀ W, Below w.heap.size w W → TRet B c P L w W) := fun W hW => TRet.same h hW
  have HTab : Hid (Tab w) := h.tab.tab
  generalize procT (prN L a).1 (prN L a).2 = t at *
  generalize (prN L a).1.1 = n1 at *
  generalize (prN L a).1.2.1 = n2 at *
  generalize (prN L a).1.2.2 = n3 at *
  generalize (prN L a).2 = er at *
  have hB0 : Hid (Below w.heap.size w (w.alloc (.cells #[.int .u8 113, I a, I b] 67))) := (Below.refl _ _).alloc (Nat.le_refl _) _
  obtain ⟨f1, _⟩ := nb_facts (nb_alloc w #[.int .u8 113, I a, I b] 67)
  have c0 := f1 0
  have c1 := f1 1
  simp at c0 c1
  clear h e f1 i1 i2 i3 i4
  go_enter Tryd.func22, Tryd.ntmps22
  go_wp2_with fail
  refine Calls.mono (h1.out _ hB0.out) ?_
  rintro e w1 ⟨rfl, hb1⟩
  have hb2 : Below w.heap.size w w1 := hB0.out.trans (hb1.mono hB0.out.size)
  clear h1 hb1 c0 c1
  go_wp2_with fail
  have hb3 : Below w.heap.size w (w1.alloc (.cells #[I n1, I n2, I n3] 51)) := hb2.alloc hb2.size _
  refine Calls.mono (h2.out _ (HTab.out.below hb3)) ?_
  rintro e w2 ⟨rfl, hb⟩
  go_wp2
  go_ret
  exact ⟨rfl, HR.out _ (hb3.trans (hb.mono hb3.size))⟩

set_option maxHeartbeats 4000000 in
theorem play_108 {w : World} {B : Nat} {c : Conf} {L : Lay} {P : PLay} (h : TSt w B c L P) (a b : Int) :
    Calls Tryd.prog 22 #[.pointer (some ⟨P.tb, 0, none⟩), .agg #[.int .u8 108, I a, I b]] w fun e w' => e = .returned (S (ansOf c L ⟨108, a, b⟩).1) ∧ TRet B c P (ansOf c L ⟨108, a, b⟩).2 w w' := by
  have e : ansOf c L ⟨108, a, b⟩ = (leavesT (rnodes L), L) := rfl
  obtain ⟨n1, n2⟩ := rnodes_ndb h.vb h.rel
  have h1 : Hid (∀ W, Below w.heap.size w W → Calls Tryd.prog 38 #[.pointer (some ⟨P.tb, 0, none⟩)] W fun e w' => e = .returned (S (leavesT (rnodes L))) ∧ Below W.heap.size W w') := fun W hW => leavesText_c _ _ n1 n2 (h.below hW).tab.tab (tnodes_c (h.below hW))
  rw [e]
  dsimp only
  have HR : Hid (∀ W, Below w.heap.size w W → TRet B c P L w W) := fun W hW => TRet.same h hW
  generalize leavesT (rnodes L) = t at *
  have hB0 : Hid (Below w.heap.size w (w.alloc (.cells #[.int .u8 108, I a, I b] 67))) := (Below.refl _ _).alloc (Nat.le_refl _) _
  obtain ⟨f1, _⟩ := nb_facts (nb_alloc w #[.int .u8 108, I a, I b] 67)
  have c0 := f1 0
  simp at c0
  clear h e f1 n1 n2
  go_enter Tryd.func22, Tryd.ntmps22
  go_wp2_with fail
  refine Calls.mono (h1.out _ hB0.out) ?_
  rintro e w1 ⟨rfl, hb1⟩
  go_wp2
  go_ret
  exact ⟨rfl, HR.out _ (hB0.out.trans (hb1.mono hB0.out.size))⟩

/-- A command that the reader may give. -/
def ChOk (cm : Cm) : Prop := (cm.ch = 105 ∨ cm.ch = 103 ∨ cm.ch = 112 ∨ cm.ch = 102 ∨ cm.ch = 117 ∨ cm.ch = 115 ∨ cm.ch = 114 ∨ cm.ch = 113 ∨ cm.ch = 108) ∧ InB cm.a
theorem play_c {w : World} {B : Nat} {c : Conf} {L : Lay} {P : PLay} (h : TSt w B c L P) (cm : Cm) (ho : ChOk cm) :
    Calls Tryd.prog 22 #[.pointer (some ⟨P.tb, 0, none⟩), cmV cm] w fun e w' => e = .returned (S (ansOf c L cm).1) ∧ TRet B c P (ansOf c L cm).2 w w' := by
  obtain ⟨ch, a, b⟩ := cm
  obtain ⟨hc, ha⟩ := ho
  simp only at hc ha
  rcases hc with rfl | rfl | rfl | rfl | rfl | rfl | rfl | rfl | rfl
  · exact play_105 h a b
  · exact play_103 h a b
  · exact play_112 h a b ha
  · exact play_102 h a b
  · exact play_117 h a b
  · exact play_115 h a b
  · exact play_114 h a b
  · exact play_113 h a b
  · exact play_108 h a b

end Go.Proofs.YtjnmpejcegmkhabDoor
