/- The document's Play: its contract. No statement of the seat is proved here. The walk of the statement Plays: for every configuration and every text the call answers true, and what was there is as it was. No statement of the seat is proved here. Arguments of the statements of package prismkeep, opened. No statement of the seat is proved here. The statement Plays: for every configuration (any eight numbers) and every text (any bytes) the call of prismlaw.Plays returns true, and its arguments read as they did before; the card ties the library's tables to the program's text. No condition. -/
import Derived.Test.YtjnmpejcegmkhaaGreatDoorPl3
import Derived.Test.YtjnmpejcegmkhaaGreatDoorCInv
import Derived.Test.YtjnmpejcegmkhaaGreatDoorRows
import Derived.WalkKit
import Derived.ProofKit
import Derived.OpenShut
import Derived.Carry
import Derived.Lib.SmallJoins
import Derived.Deep.Slices
import Derived.Test.YtjnmpejcegmkhaaGreatDoorCards
import Derived.Test.YtjnmpejcegmkhaaGreatDoorTie
import Derived.ChangeMaps5
import Derived.ShutString
import Derived.Deep.DeepHandedRow
import Derived.Lib.LaidTab
import Derived.SizedLaws
import Derived.SevenTiedAt
namespace Go.Proofs.YtjnmpejcegmkhaaGreatDoor
open Go.RowKit

theorem totL_congr : ∀ (l l' : List (Value × Hist)), l.map (fun x => x.2) = l'.map (fun x => x.2) → totL l = totL l'
  | [], [], _ => rfl
  | [], _ :: _, h => by simp at h
  | _ :: _, [], h => by simp at h
  | x :: r, y :: r', h => by
    simp only [List.map_cons, List.cons.injEq] at h
    simp only [totL]
    rw [h.1, totL_congr r r' h.2]
theorem new_same {c : Conf} {L L' : Lay} (h : NewLay c L) (h' : NewLay c L') : Same L L' := by
  have hl : L'.past.length = L.past.length := by rw [h.len, h'.len]
  have hh : ∀ u, L'.hist u = L.hist u := by
    intro u
    by_cases hu : u < L.past.length
    · by_cases h0 : u = 0
      · subst h0
        rw [h.hist0, h'.hist0]
      · rw [h.hist u (by omega) hu, h'.hist u (by omega) (by omega)]
    · unfold Lay.hist
      rw [List.getD_eq_getElem?_getD, List.getD_eq_getElem?_getD, List.getElem?_eq_none (by omega), List.getElem?_eq_none (by omega)]
  refine ⟨by rw [h.conf, h'.conf], by rw [h.procs, h'.procs], hl, fun u => by rw [hh u], totL_congr _ _ ?_⟩
  refine List.ext_getElem (by simp [hl]) fun i hi hi' => ?_
  have := hh i
  simp only [List.length_map] at hi hi'
  unfold Lay.hist at this
  rw [List.getD_eq_getElem?_getD, List.getD_eq_getElem?_getD, List.getElem?_eq_getElem hi, List.getElem?_eq_getElem hi'] at this
  simpa using this
theorem crel_newL (c : Conf) (hm : mayC c = true) (w : World) : ∃ P, CRel c (newL c) P := by
  obtain ⟨e, w', fr, ⟨P, _, hp, hn, _⟩, _⟩ := pnew_yes c w hm []
  exact ⟨P, crel_new hm (newL_new c) hn hp.len⟩
theorem partsF_len : ∀ (g : Nat) (l : List UInt8), ∀ p ∈ partsF g l, p.length ≤ l.length
  | 0, l, p, hp => by simp [partsF] at hp
  | g + 1, l, p, hp => by
    have hc := cutL_len 59 l
    unfold partsF at hp
    split at hp
    · rcases List.mem_cons.1 hp with rfl | hp
      · exact hc.1
      · exact Nat.le_trans (partsF_len g _ p hp) hc.2.1
    · simp at hp
      rw [hp]
      exact hc.1
theorem partsL_len (l : List UInt8) : ∀ p ∈ partsL l, p.length ≤ l.length := by
  intro p hp
  unfold partsL at hp
  split at hp
  · simp at hp
  · exact partsF_len _ _ p hp

/-- In the midst of the document's Play: behind parts ps. -/
def RPl (B : Nat) (c : Conf) (tb : Nat) (ps : List (List UInt8)) (w : World) : Prop := RAt B c tb (plA c (newL c) (ps.map cmdR)).2.2 w
theorem RPl.does {B : Nat} {c : Conf} {tb : Nat} {ps : List (List UInt8)} {w : World} (h : RPl B c tb ps w) (p : List UInt8) (hp : rightB p = true) (hl : p.length ≤ 600) :
    Calls Tryz.prog 13 #[.pointer (some ⟨tb, 0, none⟩), S p] w fun e w' => e = .returned (S (ansOf c (plA c (newL c) (ps.map cmdR)).2.2 (cmdR p)).1) ∧ RPl B c tb (ps ++ [p]) w' ∧ ChgT B RTy w w' := by
  refine (rdoes_c h p hp hl).mono ?_
  rintro e w' ⟨rfl, hr, hc⟩
  refine ⟨rfl, ?_, hc⟩
  unfold RPl
  rw [List.map_append, List.map_cons, List.map_nil, plA_snoc]
  exact hr
theorem RPl.len {B : Nat} {c : Conf} {tb : Nat} {ps : List (List UInt8)} {w : World} (h : RPl B c tb ps w) (cm : Cm) : (ansOf c (plA c (newL c) (ps.map cmdR)).2.2 cm).1.length ≤ 10000000 := by
  obtain ⟨P, hP⟩ := RAt.rel h
  exact ans_len (RAt.vb h) hP cm

theorem str_row {w : World} {b : Nat} {x : Value} {ps : List (List UInt8)} (h : w.ownsRow b 9 1 x ps.length (txCs ps)) : ∃ ao cap, x = .slice ao ps.length cap ∧ ps.length ≤ cap ∧ ps.length ≤ maxLen ∧ cap ≤ maxLen ∧ ∀ k, (hk : k < ps.length) → ∃ g, ao = some ⟨g, 0, none⟩ ∧ w.cell? ⟨g, k, none⟩ = some (S ps[k]) := by
  obtain ⟨ao, cap, e1, c1, c2, c3, h2⟩ := ownsRow_cells h
  refine ⟨ao, cap, e1, c1, c2, c3, fun k hk => ?_⟩
  obtain ⟨g, e, _, d⟩ := h2 k (S ps[k]) (by simp [txCs, hk])
  exact ⟨g, e, d⟩

set_option maxHeartbeats 8000000 in
set_option maxRecDepth 100000 in
theorem rPlay_c (c : Conf) (t : List UInt8) (ht : t.length < 2 ^ 63) {w : World} (h : Tab w) :
    Calls Tryz.prog 6 #[confV c, S t] w fun e w' => e = .returned (.tuple #[S (playT c t).1, I (playT c t).2]) ∧ Below w.heap.size w w' := by
  have hba : Below w.heap.size w (w.alloc (.cells #[I c.kind, I c.depth, I c.start, I c.slots, I c.width, I c.spin, I c.drain, I c.procs] 23)) := (Below.refl _ _).alloc (Nat.le_refl _) _
  have hSA := S_app
  have F0 : mayC c = false → playT c t = ([], 1) := by
    intro hm
    unfold playT
    rw [hm, if_pos rfl]
  have F1 : mayC c = true → 600 < t.length → playT c t = ([], 7) := by
    intro hm h6
    unfold playT
    rw [hm, if_neg (by simp), rdText_parts, if_pos h6]
  have F2 : mayC c = true → ¬ 600 < t.length → (partsL t).all rightB = true → playT c t = ((plA c (newL c) ((partsL t).map cmdR)).2.1, 0) := by
    intro hm h6 ha
    unfold playT
    rw [hm, if_neg (by simp), rdText_parts, if_neg h6, allC_eq, if_pos ha]
  have F3 : mayC c = true → ¬ 600 < t.length → (partsL t).all rightB = false → playT c t = ([], 7) := by
    intro hm h6 ha
    unfold playT
    rw [hm, if_neg (by simp), rdText_parts, if_neg h6, allC_eq, if_neg (by rw [ha]; simp)]
  generalize playT c t = R at *
  cases hm : mayC c with
  | false =>
    have e := F0 hm
    subst e
    have h1 := fun W => rnew_no c W hm
    unfold confV at h1 ⊢
    dsimp only
    replace h1 : Hid _ := h1
    replace hba : Hid _ := hba
    clear hm h F0 F1 F2 F3
    go_enter Tryz.func6, Tryz.ntmps6
    go_wp2_with fail
    refine Calls.mono (h1.out _) ?_
    rintro e w1 ⟨rfl, hb1⟩
    go_wp2
    go_ret2
    exact ⟨rfl, hba.out.trans (hb1.mono hba.out.size)⟩
  | true =>
    have h1 : Hid (∀ W, Below w.heap.size w W → Calls Tryz.prog 8 #[.agg #[I c.kind, I c.depth, I c.start, I c.slots, I c.width, I c.spin, I c.drain, I c.procs]] W fun e w' => ∃ tb, e = .returned (.pointer (some ⟨tb, 0, none⟩)) ∧ RPl W.heap.size c tb [] w' ∧ Below W.heap.size W w') := by
      intro W hW
      refine (rnew_yes c W hm).mono ?_
      rintro e w' ⟨L, rfl, hr, hn, hb⟩
      exact ⟨L.tb, rfl, ⟨⟨L, rfl, new_same (newL_new c) hn, hr⟩, crel_newL c hm W, newL_vb c, hb.size, ⟨w, h, hW.size, hW.trans (hb.mono hW.size)⟩⟩, hb⟩
    unfold confV
    by_cases h6 : 600 < t.length
    · have e := F1 hm h6
      subst e
      have b6 : decide ((t.length : Int) > 600) = true := by simp; omega
      dsimp only
      replace hba : Hid _ := hba
      clear h ht hm h6 F0 F1 F2 F3
      go_enter Tryz.func6, Tryz.ntmps6
      go_wp2_with fail
      refine Calls.mono (h1.out _ hba.out) ?_
      rintro e w1 ⟨tb, rfl, hp, hb1⟩
      replace hp : Hid _ := hp
      go_wp2
      go_ret2
      exact ⟨rfl, hba.out.trans (hb1.mono hba.out.size)⟩
    · have HRy : Hid ((partsL t).all rightB = true → R = ((plA c (newL c) ((partsL t).map cmdR)).2.1, 0)) := F2 hm h6
      have HRn : Hid ((partsL t).all rightB = false → R = ([], 7)) := F3 hm h6
      have b6 : decide ((t.length : Int) > 600) = false := by simp; omega
      have h2 : Hid (∀ W, Calls Tryz.prog 11 #[S t] W fun e w' => ∃ x, e = .returned x ∧ w'.ownsRow W.heap.size 9 1 x (partsL t).length (txCs (partsL t)) ∧ (partsL t).length ≤ 601 ∧ Below W.heap.size W w') := fun W => rparts_c t (by omega) W
      have HPL : Hid (∀ p ∈ partsL t, p.length ≤ 600) := fun p hp => Nat.le_trans (partsL_len t p hp) (by omega)
      have HRi : Hid (∀ p ∈ partsL t, ∀ W, Calls Tryz.prog 12 #[S p] W fun e w' => e = .returned (.bool (rightB p)) ∧ Below W.heap.size W w') := fun p hp W => rright_c p (HPL.out p hp) W
      clear F0 F1 F2 F3
      generalize partsL t = ps at *
      replace hba : Hid _ := hba
      clear h ht hm h6
      go_enter Tryz.func6, Tryz.ntmps6
      go_wp2_with fail
      refine Calls.mono (h1.out _ hba.out) ?_
      rintro e w1 ⟨tb, rfl, hp, hb1⟩
      have hb3 : Below w.heap.size w w1 := hba.out.trans (hb1.mono hba.out.size)
      have HBs : Hid (w.heap.size ≤ (w.alloc (.cells #[I c.kind, I c.depth, I c.start, I c.slots, I c.width, I c.spin, I c.drain, I c.procs] 23)).heap.size) := hba.out.size
      generalize (w.alloc (.cells #[I c.kind, I c.depth, I c.start, I c.slots, I c.width, I c.spin, I c.drain, I c.procs] 23)).heap.size = B at *
      replace hp : Hid _ := hp
      clear h1 hb1 hba
      go_wp2_with fail
      refine Calls.mono (h2.out _) ?_
      rintro e w2 ⟨x, rfl, hrow, h601, hb2⟩
      obtain ⟨ao, cap, rfl, n1, n2, n3, _⟩ := str_row hrow
      unfold maxLen at n2 n3
      have hp2 : Hid (RPl B c tb [] w2) := RAt.below hp.out hb2
      have hb4 : Hid (Below w.heap.size w w2) := hb3.trans (hb2.mono hb3.size)
      have HRow : Hid (w2.ownsRow w1.heap.size 9 1 (.slice ao ps.length cap) ps.length (txCs ps)) := hrow
      clear hrow hb2 hb3 h2 hp
      go_wp2_with fail
      go_loopw [8, 9] (fun ii _ wr => ∃ k : Nat, k ≤ ps.length ∧ ii = I k ∧ Hid ((ps.take k).all rightB = true) ∧ Hid (Below w2.heap.size w2 wr)) (fun ii _ _ => ps.length - (intOf ii).toNat)
      case atStart => exact ⟨0, Nat.zero_le _, rfl, rfl, Below.refl _ _⟩
      case round =>
        obtain ⟨k, hk, rfl, ha, hbr⟩ := hrel
        have hrw : Hid (wr.ownsRow w1.heap.size 9 1 (.slice ao ps.length cap) ps.length (txCs ps)) := ownsRow_below HRow.out hbr.out (Nat.le_refl _)
        by_cases hlt : k < ps.length
        · have bl : decide ((k : Int) < (ps.length : Int)) = true := by simp; omega
          obtain ⟨ao', cap', ee, _, _, _, hcell⟩ := str_row hrw.out
          obtain ⟨rfl, _, rfl⟩ : ao = ao' ∧ ps.length = ps.length ∧ cap = cap' := by simpa using ee
          obtain ⟨g, rfl, d0⟩ := hcell k hlt
          have hcall := HRi.out ps[k] (List.getElem_mem hlt) wr
          have HS : Hid ((ps.take (k + 1)).all rightB = ((ps.take k).all rightB && rightB ps[k])) := by
            show _ = _
            rw [List.take_succ_eq_append_getElem hlt, List.all_append]
            simp
          have HN : Hid (rightB ps[k] = false → ps.all rightB = false) := by
            intro hf
            rw [List.all_eq_false]
            exact ⟨ps[k], List.getElem_mem hlt, by rw [hf]; simp⟩
          replace hcall : Hid _ := hcall
          generalize rightB ps[k] = y at *
          generalize ps[k] = p at *
          clear ee hcell
          go_wp2_with fail
          refine Calls.mono hcall.out ?_
          rintro e w5 ⟨rfl, hb5⟩
          have hb6 : Hid (Below w2.heap.size w2 w5) := hbr.out.trans (hb5.mono hbr.out.size)
          clear hcall hb5 d0 hrw hbr
          cases y with
          | false =>
            have e := HRn.out (HN.out rfl)
            subst e
            clear HN HS HRn HRy
            go_wp2
            go_ret2
            exact ⟨rfl, hb4.out.trans (hb6.out.mono hb4.out.size)⟩
          | true =>
            clear HN
            go_wp2
            refine ⟨⟨k + 1, by omega, rfl, ?_, hb6⟩, ?_⟩
            · show _ = _
              rw [HS.out, ha.out]
              rfl
            · show ps.length - ((k : Int) + 1).toNat < ps.length - (k : Int).toNat
              omega
        · have bl : decide ((k : Int) < (ps.length : Int)) = false := by simp; omega
          have ek : k = ps.length := by omega
          have hall : ps.all rightB = true := by
            have := ha.out
            rw [ek, List.take_length] at this
            exact this
          have HE : Hid (R = ((plA c (newL c) ((ps.take ps.length).map cmdR)).2.1, 0)) := by
            show _ = _
            rw [List.take_length]
            exact HRy.out hall
          have HOk : Hid (∀ p ∈ ps, rightB p = true) := fun p hp => List.all_eq_true.1 hall p hp
          have hp3 : Hid (RPl B c tb [] wr) := RAt.below hp2.out hbr.out
          have hb5 : Hid (Below w.heap.size w wr) := hb4.out.trans (hbr.out.mono hb4.out.size)
          have HRow3 := hrw
          clear HRy HRn HRi hall ha hbr hp2 hb4 HRow hrw ek
          go_wp2_with fail
          go_loopw [10, 11, 12] (fun tt ii _ wx => ∃ (k : Nat) (u : List UInt8), k ≤ ps.length ∧ tt = S u ∧ ii = I k ∧ Hid (u = (plA c (newL c) ((ps.take k).map cmdR)).2.1) ∧ u.length ≤ 10000001 * k ∧ Hid (RPl B c tb (ps.take k) wx) ∧ Hid (wx.ownsRow w1.heap.size 9 1 (.slice ao ps.length cap) ps.length (txCs ps)) ∧ Hid (Below w.heap.size w wx)) (fun _ ii _ _ => ps.length - (intOf ii).toNat)
          case atStart => exact ⟨0, [], Nat.zero_le _, rfl, rfl, rfl, by simp, hp3, HRow3, hb5⟩
          case round =>
            clear hp3 hb5 HRow3
            obtain ⟨k, u, hk, rfl, rfl, hu, hul, hpl, hrw, hbr⟩ := hrel
            by_cases hlt : k < ps.length
            · have bl2 : decide ((k : Int) < (ps.length : Int)) = true := by simp; omega
              obtain ⟨ao', cap', ee, _, _, _, hcell⟩ := str_row hrw.out
              obtain ⟨rfl, _, rfl⟩ : ao = ao' ∧ ps.length = ps.length ∧ cap = cap' := by simpa using ee
              obtain ⟨g, rfl, d0⟩ := hcell k hlt
              have hcall := RPl.does hpl.out ps[k] (HOk.out _ (List.getElem_mem hlt)) (HPL.out _ (List.getElem_mem hlt))
              have hal := RPl.len hpl.out (cmdR ps[k])
              have HS : Hid (plA c (newL c) ((ps.take (k + 1)).map cmdR) = plS c (plA c (newL c) ((ps.take k).map cmdR)) (cmdR ps[k])) := by
                show _ = _
                rw [List.take_succ_eq_append_getElem hlt, List.map_append]
                exact plA_snoc _ _ _ _
              have HT : Hid (ps.take (k + 1) = ps.take k ++ [ps[k]]) := List.take_succ_eq_append_getElem hlt
              have hB : B ≤ wr.heap.size := RAt.hB hpl.out
              have HK : Hid ((plA c (newL c) ((ps.take k).map cmdR)).1 = k) := by
                show _ = _
                rw [plA_len]
                simp
                omega
              rw [← HT.out] at hcall
              have HU : Hid ((plA c (newL c) ((ps.take (k + 1)).map cmdR)).2.1 = (if k = 0 then u else u ++ [59]) ++ (ansOf c (plA c (newL c) ((ps.take k).map cmdR)).2.2 (cmdR ps[k])).1) := by
                show _ = _
                rw [HS.out, hu.out]
                unfold plS
                rw [HK.out]
              replace hcall : Hid _ := hcall
              generalize (ansOf c (plA c (newL c) ((ps.take k).map cmdR)).2.2 (cmdR ps[k])).1 = a at *
              generalize ps[k] = p at *
              clear HS HK ee hcell HT
              by_cases hk0 : k = 0
              · subst hk0
                have q1 : ¬ 9223372036854775807 < u.length + a.length := by omega
                rw [if_pos rfl] at HU
                go_wp2_with fail
                refine Calls.mono hcall.out ?_
                rintro e w5 ⟨rfl, hp5, hc5⟩
                have HB5 : Hid (Below w.heap.size w w5) := hbr.out.trans ((hc5.below hB).mono HBs.out)
                have HR5 : Hid (w5.ownsRow w1.heap.size 9 1 (.slice (some ⟨g, 0, none⟩) ps.length cap) ps.length (txCs ps)) := hc5.row hrw.out (by decide)
                replace hp5 : Hid _ := hp5
                clear hcall hc5 hrw hbr hpl d0
                go_wp2
                refine ⟨⟨1, u ++ a, by omega, rfl, rfl, HU.out.symm, by simp; omega, hp5, HR5, HB5⟩, ?_⟩
                show ps.length - ((0 : Int) + 1).toNat < ps.length - (0 : Int).toNat
                omega
              · have b0 : decide ((k : Int) > 0) = true := by simp; omega
                have q1 : ¬ 9223372036854775807 < u.length + 1 := by omega
                have q2 : ¬ 9223372036854775807 < u.length + 1 + a.length := by omega
                rw [if_neg hk0] at HU
                go_wp2_with fail
                refine Calls.mono hcall.out ?_
                rintro e w5 ⟨rfl, hp5, hc5⟩
                have HB5 : Hid (Below w.heap.size w w5) := hbr.out.trans ((hc5.below hB).mono HBs.out)
                have HR5 : Hid (w5.ownsRow w1.heap.size 9 1 (.slice (some ⟨g, 0, none⟩) ps.length cap) ps.length (txCs ps)) := hc5.row hrw.out (by decide)
                replace hp5 : Hid _ := hp5
                clear hcall hc5 hrw hbr hpl d0
                go_wp2
                refine ⟨⟨k + 1, u ++ 59 :: a, by omega, rfl, rfl, ?_, by simp; omega, hp5, HR5, HB5⟩, ?_⟩
                · show _ = _
                  rw [HU.out]
                  simp
                · show ps.length - ((k : Int) + 1).toNat < ps.length - (k : Int).toNat
                  omega
            · have ek2 : k = ps.length := by omega
              have bl2 : decide ((k : Int) < (ps.length : Int)) = false := by simp; omega
              have HF : Hid (R = (u, 0)) := by
                show _ = _
                rw [HE.out, hu.out, ek2]
              go_wp2
              go_ret2
              rw [HF.out]
              exact ⟨rfl, hbr.out⟩

end Go.Proofs.YtjnmpejcegmkhaaGreatDoor

namespace Go.Proofs.YtjnmpejcegmkhaaGreatDoor
open Go.RowKit

set_option maxHeartbeats 4000000 in
theorem lbegin_c (c : Conf) (w : World) : Calls Tryz.prog 4 #[confV c] w fun e w' => ∃ x, e = .returned (.tuple #[x, .bool true]) ∧ Below w.heap.size w w' := by
  cases hm : mayC c with
  | false =>
    have h1 := fun W => pnew_no c W hm
    have h2 := fun W => rnew_no c W hm
    unfold confV at h1 h2 ⊢
    clear hm
    replace h1 : Hid _ := h1
    replace h2 : Hid _ := h2
    go_enter Tryz.func4, Tryz.ntmps4
    go_wp2_with fail
    refine (h1.out _).mono ?_
    rintro e w1 ⟨rfl, hb1⟩
    have nb1 : w1.heap[w.heap.size]? = some (.cells #[I c.kind, I c.depth, I c.start, I c.slots, I c.width, I c.spin, I c.drain, I c.procs] 23 (0, 0)) := (hb1.block _ (by simp)).trans (nb_alloc _ _ _)
    have hb2 : Below w.heap.size w w1 := ((Below.refl _ _).alloc (Nat.le_refl _) _).trans (hb1.mono (by simp))
    clear hb1
    obtain ⟨f1, _⟩ := nb_facts nb1
    go_wp2_with fail
    refine (h2.out _).mono ?_
    rintro e w2 ⟨rfl, hb3⟩
    have hb4 := hb2.trans (hb3.mono hb2.size)
    clear f1 nb1 hb2 hb3 h1 h2
    go_wp2
    go_ret2
    exact ⟨_, rfl, hb4⟩
  | true =>
    have h1 : Hid (∀ W, Calls Tryz.prog 7 #[.agg #[I c.kind, I c.depth, I c.start, I c.slots, I c.width, I c.spin, I c.drain, I c.procs]] W fun e w' => ∃ tb, e = .returned (.tuple #[.pointer (some ⟨tb, 0, none⟩), I 0]) ∧ Below W.heap.size W w') := by
      intro W
      refine (pnew_yes c W hm).mono ?_
      rintro e w' ⟨P, rfl, _, _, hb⟩
      exact ⟨_, rfl, hb⟩
    have h2 : Hid (∀ W, Calls Tryz.prog 8 #[.agg #[I c.kind, I c.depth, I c.start, I c.slots, I c.width, I c.spin, I c.drain, I c.procs]] W fun e w' => ∃ tb, e = .returned (.pointer (some ⟨tb, 0, none⟩)) ∧ Below W.heap.size W w') := by
      intro W
      refine (rnew_yes c W hm).mono ?_
      rintro e w' ⟨L, rfl, _, _, hb⟩
      exact ⟨_, rfl, hb⟩
    unfold confV
    clear hm
    go_enter Tryz.func4, Tryz.ntmps4
    go_wp2_with fail
    refine (h1.out _).mono ?_
    rintro e w1 ⟨tb1, rfl, hb1⟩
    have nb1 : w1.heap[w.heap.size]? = some (.cells #[I c.kind, I c.depth, I c.start, I c.slots, I c.width, I c.spin, I c.drain, I c.procs] 23 (0, 0)) := (hb1.block _ (by simp)).trans (nb_alloc _ _ _)
    have hb2 : Below w.heap.size w w1 := ((Below.refl _ _).alloc (Nat.le_refl _) _).trans (hb1.mono (by simp))
    clear hb1
    obtain ⟨f1, _⟩ := nb_facts nb1
    go_wp2_with fail
    refine (h2.out _).mono ?_
    rintro e w2 ⟨tb2, rfl, hb3⟩
    have hb4 := hb2.trans (hb3.mono hb2.size)
    clear f1 nb1 hb3 h1 h2 hb2
    go_wp2
    go_ret2
    exact ⟨_, rfl, hb4.alloc hb4.size _⟩

set_option maxHeartbeats 4000000 in
theorem plays_walk2 (c : Conf) (t : List UInt8) (ht : t.length < 2 ^ 63) (w : World) (h : Tab w) : Calls Tryz.prog 3 #[confV c, S t] w fun e w' => e = .returned (.bool true) ∧ Below w.heap.size w w' := by
  have hbg := fun W => lbegin_c c W
  have HP : Hid (∀ W, Below w.heap.size w W → Calls Tryz.prog 5 #[confV c, S t] W fun e w' => e = .returned (.tuple #[S (playT c t).1, I (playT c t).2]) ∧ Below W.heap.size W w') := fun W hW => Play_c c t ht (h.below hW)
  have HQ : Hid (∀ W, Below w.heap.size w W → Calls Tryz.prog 6 #[confV c, S t] W fun e w' => e = .returned (.tuple #[S (playT c t).1, I (playT c t).2]) ∧ Below W.heap.size W w') := fun W hW => rPlay_c c t ht (h.below hW)
  have hba : Below w.heap.size w (w.alloc (.cells #[I c.kind, I c.depth, I c.start, I c.slots, I c.width, I c.spin, I c.drain, I c.procs] 23)) := (Below.refl _ _).alloc (Nat.le_refl _) _
  have noa : (w.alloc (.cells #[I c.kind, I c.depth, I c.start, I c.slots, I c.width, I c.spin, I c.drain, I c.procs] 23)).heap[w.heap.size]? = some (.cells #[I c.kind, I c.depth, I c.start, I c.slots, I c.width, I c.spin, I c.drain, I c.procs] 23 (0, 0)) := nb_alloc _ _ _
  generalize (playT c t).1 = u at *
  generalize (playT c t).2 = er at *
  unfold confV at hbg HP HQ ⊢
  replace hbg : Hid _ := hbg
  clear h ht
  go_enter Tryz.func3, Tryz.ntmps3
  go_wp2_with fail
  refine Calls.mono (hbg.out _) ?_
  rintro e w1 ⟨x, rfl, hb1⟩
  have nb1 := (hb1.block _ (Array.getElem?_eq_some_iff.1 noa).1).trans noa
  have hb2 := hba.trans (hb1.mono hba.size)
  have hp := HP.out w1 hb2
  replace hp : Hid _ := hp
  obtain ⟨f1, _⟩ := nb_facts nb1
  clear hb1 hbg noa hba HP
  go_wp2_with fail
  refine Calls.mono hp.out ?_
  rintro e w2 ⟨rfl, hb3⟩
  have nb2 := (hb3.block _ (Array.getElem?_eq_some_iff.1 nb1).1).trans nb1
  have hb4 := hb2.trans (hb3.mono hb2.size)
  have hq := HQ.out w2 hb4
  replace hq : Hid _ := hq
  obtain ⟨f2, _⟩ := nb_facts nb2
  clear f1 nb1 hb2 hb3 HQ hp
  go_wp2_with fail
  refine Calls.mono hq.out ?_
  rintro e w3 ⟨rfl, hb5⟩
  go_wp2
  go_ret
  exact ⟨rfl, hb4.trans (hb5.mono hb4.size)⟩

end Go.Proofs.YtjnmpejcegmkhaaGreatDoor

namespace Go.Proofs.YtjnmpejcegmkhaaGreatDoor
open Go.ChangeShapes Go.WideShapes Go.ChangeAt Go.RowKit Go.Joins

theorem ownK2 : ownKnob Tryz.prog.godebug = none := by kernel_rfl

theorem laidOut2 : laidOutB Tryz.prog = true := by kernel_rfl

set_option maxRecDepth 100000 in
theorem conf_open2 {H : Type} {enc : TypeId × Value → H} {W : World} {base : Nat} {held : Bool} {sp : Nat → Bool} {v : Value} {d : DataW H} {p : List MemPlace} {r : Reach} {b0 : Nat}
    (hv : Value.okWide Tryz.prog W r b0 23 v) (h : DataW.Trod enc Tryz.prog W base sp held 23 v d p) : ∃ c : Conf, v = confV c := by
  obtain ⟨cs, rfl, hsz⟩ := okWide_struct Tryz.underlying23 hv
  obtain ⟨fuel, hf⟩ := h
  obtain ⟨xs, n, h1, h2, hl, hlen, hf⟩ := DataW.trod_struct Tryz.underlying23 hf
  have hlen8 : xs.length = 8 := hlen
  have hcs8 : cs.toList.length = 8 := by
    have e8 : Tryz.prog.cellsOf 23 = 8 := by kernel_rfl
    rw [Array.length_toList, hsz, e8]
  have e1 : Tryz.prog.cellsOf 3 = 1 := by kernel_rfl
  have key : ∀ i, i < 8 → ∀ f : Field, f.type = 3 → f.offset = i → DataW.trod enc Tryz.prog W base sp held n f.type ((cs.toList.drop f.offset).take (Tryz.prog.cellsOf f.type)) = xs[i]? → ∃ a : Int, cs.toList[i]? = some (I a) := by
    intro i hi f ht ho hx
    rw [ht, ho, e1] at hx
    rw [List.getElem?_eq_getElem (by omega : i < xs.length)] at hx
    obtain ⟨a, hc, _⟩ := DataW.trod_int Tryz.underlying3 hx
    refine ⟨a, ?_⟩
    have := congrArg (fun l => l[0]?) hc
    simpa using this
  obtain ⟨a0, q0⟩ := key 0 (by omega) _ rfl rfl (hf 0 _ rfl)
  obtain ⟨a1, q1⟩ := key 1 (by omega) _ rfl rfl (hf 1 _ rfl)
  obtain ⟨a2, q2⟩ := key 2 (by omega) _ rfl rfl (hf 2 _ rfl)
  obtain ⟨a3, q3⟩ := key 3 (by omega) _ rfl rfl (hf 3 _ rfl)
  obtain ⟨a4, q4⟩ := key 4 (by omega) _ rfl rfl (hf 4 _ rfl)
  obtain ⟨a5, q5⟩ := key 5 (by omega) _ rfl rfl (hf 5 _ rfl)
  obtain ⟨a6, q6⟩ := key 6 (by omega) _ rfl rfl (hf 6 _ rfl)
  obtain ⟨a7, q7⟩ := key 7 (by omega) _ rfl rfl (hf 7 _ rfl)
  refine ⟨⟨a0, a1, a2, a3, a4, a5, a6, a7⟩, ?_⟩
  have el : cs.toList = [I a0, I a1, I a2, I a3, I a4, I a5, I a6, I a7] := by
    apply List.ext_getElem?
    intro i
    by_cases hi : i < 8
    · have : i = 0 ∨ i = 1 ∨ i = 2 ∨ i = 3 ∨ i = 4 ∨ i = 5 ∨ i = 6 ∨ i = 7 := by omega
      rcases this with rfl | rfl | rfl | rfl | rfl | rfl | rfl | rfl
      · exact q0
      · exact q1
      · exact q2
      · exact q3
      · exact q4
      · exact q5
      · exact q6
      · exact q7
    · rw [List.getElem?_eq_none (by omega), List.getElem?_eq_none (by simp; omega)]
  show Value.agg cs = .agg #[I a0, I a1, I a2, I a3, I a4, I a5, I a6, I a7]
  have ec : cs = #[I a0, I a1, I a2, I a3, I a4, I a5, I a6, I a7] := Array.toList_inj.1 el
  rw [ec]

end Go.Proofs.YtjnmpejcegmkhaaGreatDoor

namespace Go.Proofs.YtjnmpejcegmkhaaGreatDoor
open Go.ChangeShapes Go.WideShapes Go.ChangeAt Go.RowKit Go.Joins

theorem gTab : Tryz.prog.globalNamed "internal/strconv.uint64pow10" = some 0 := by kernel_rfl
theorem gTabType : (Tryz.prog.globals[0]?).map (·.type) = some 150 := by kernel_rfl
theorem cellsPT : Tryz.prog.cellsOf 150 = 20 := by kernel_rfl
theorem cellsPE : Tryz.prog.cellsOf 140 = 1 := by kernel_rfl
theorem undPT : Tryz.prog.underlying 150 = some (.array 20 140) := by kernel_rfl
theorem undS : Tryz.prog.underlying 9 = some .string := by kernel_rfl
theorem undPE : Tryz.prog.underlying 140 = some (.int .u64) := by kernel_rfl
/-- The table of powers lies third on the list. -/
theorem plays_tab {W : World} (h : laidMetH Tryz.prog Rows.playsRow.laid W) : Tab W := by
  have h' : laidMet Tryz.prog [("math/bits.deBruijn32tab", Rows.laid_math_bits_deBruijn32tab), ("math/bits.deBruijn64tab", Rows.laid_math_bits_deBruijn64tab), ("internal/strconv.uint64pow10", Lib.tabData .u64 Lib.pow10Tab)] W := h
  obtain ⟨ps, ⟨_, _, _, _, _, q1, _, _, _, _, hL1, _⟩, _⟩ := h'
  obtain ⟨_, _, _, _, _, q2, _, _, _, _, hL2, _⟩ := hL1
  obtain ⟨g', t', cs, fuel, p, q, hg', ht', hvar, hd, _, _⟩ := hL2
  obtain rfl := Option.some.inj (gTab.symm.trans hg')
  obtain rfl := Option.some.inj (gTabType.symm.trans ht')
  show World.var? _ _ _ = _
  rw [hvar, ← Lib.cells_of_tab undPT undPE cellsPE cellsPT hd]

def layT (h : Array Obj) (i : Nat) (cs : Array Value) : Array Obj := h.modify i fun
  | .cells _ t frozen => .cells cs t frozen
  | o => o
def playsHeap (h : Array Obj) : Array Obj := layT (layT (layT h 0 #[.int .u64 1, .int .u64 10, .int .u64 100, .int .u64 1000, .int .u64 10000, .int .u64 100000, .int .u64 1000000, .int .u64 10000000, .int .u64 100000000, .int .u64 1000000000, .int .u64 10000000000, .int .u64 100000000000, .int .u64 1000000000000, .int .u64 10000000000000, .int .u64 100000000000000, .int .u64 1000000000000000, .int .u64 10000000000000000, .int .u64 100000000000000000, .int .u64 1000000000000000000, .int .u64 10000000000000000000]) 1 #[.int .u8 0, .int .u8 1, .int .u8 28, .int .u8 2, .int .u8 29, .int .u8 14, .int .u8 24, .int .u8 3, .int .u8 30, .int .u8 22, .int .u8 20, .int .u8 15, .int .u8 25, .int .u8 17, .int .u8 4, .int .u8 8, .int .u8 31, .int .u8 27, .int .u8 13, .int .u8 23, .int .u8 21, .int .u8 19, .int .u8 16, .int .u8 7, .int .u8 26, .int .u8 12, .int .u8 18, .int .u8 6, .int .u8 11, .int .u8 5, .int .u8 10, .int .u8 9]) 2 #[.int .u8 0, .int .u8 1, .int .u8 56, .int .u8 2, .int .u8 57, .int .u8 49, .int .u8 28, .int .u8 3, .int .u8 61, .int .u8 58, .int .u8 42, .int .u8 50, .int .u8 38, .int .u8 29, .int .u8 17, .int .u8 4, .int .u8 62, .int .u8 47, .int .u8 59, .int .u8 36, .int .u8 45, .int .u8 43, .int .u8 51, .int .u8 22, .int .u8 53, .int .u8 39, .int .u8 33, .int .u8 30, .int .u8 24, .int .u8 18, .int .u8 12, .int .u8 5, .int .u8 63, .int .u8 55, .int .u8 48, .int .u8 27, .int .u8 60, .int .u8 41, .int .u8 37, .int .u8 16, .int .u8 46, .int .u8 35, .int .u8 44, .int .u8 21, .int .u8 52, .int .u8 32, .int .u8 23, .int .u8 11, .int .u8 54, .int .u8 26, .int .u8 40, .int .u8 15, .int .u8 34, .int .u8 20, .int .u8 31, .int .u8 10, .int .u8 25, .int .u8 14, .int .u8 19, .int .u8 9, .int .u8 13, .int .u8 8, .int .u8 7, .int .u8 6]
abbrev playsArgs : Array Value := #[.agg #[.int .i64 0, .int .i64 0, .int .i64 0, .int .i64 0, .int .i64 0, .int .i64 0, .int .i64 0, .int .i64 0], .string ⟨#[]⟩]
set_option maxRecDepth 100000 in
theorem plays_met (os : Os) : laidMet Tryz.prog Rows.playsRow.laid (({ World.holding Tryz.prog os ⟨#[], #[], []⟩ with heap := playsHeap (World.holding Tryz.prog os ⟨#[], #[], []⟩).heap } : World).forCall (fun _ _ => 0) ⟨#[], playsArgs, []⟩).memory :=
  laidMet_of_run' 8 (by kernel_rfl) (by kernel_rfl)
set_option maxRecDepth 100000 in
theorem plays_reads (os : Os) {H : Type} (enc : TypeId × Value → H) : ∃ places, DataW.whole enc Tryz.prog (({ World.holding Tryz.prog os ⟨#[], #[], []⟩ with heap := playsHeap (World.holding Tryz.prog os ⟨#[], #[], []⟩).heap } : World).forCall (fun _ _ => 0) ⟨#[], playsArgs, []⟩).memory Tryz.f3.params.toList Rows.playsSpec.vars false playsArgs.toList 8 = some ([.agg [.lit (.int .i64 0), .lit (.int .i64 0), .lit (.int .i64 0), .lit (.int .i64 0), .lit (.int .i64 0), .lit (.int .i64 0), .lit (.int .i64 0), .lit (.int .i64 0)], .lit (.string [])], [], places) :=
  ⟨[], by kernel_rfl⟩

set_option maxHeartbeats 1000000 in
set_option maxRecDepth 100000 in
theorem plays_lifted (os : Os) (started : os.Started) (H : Type) (enc : TypeId × Value → H) (F : Stop.Interp) :
    ReturnsInHanded {} Tryz.checked os 3 .any ((OpenSpec.ofChange Rows.playsSpec).preRow enc Tryz.prog Tryz.f3 Rows.playsRow.domain false Rows.playsRow.laid) (((OpenSpec.ofChange Rows.playsSpec).at F).post enc Tryz.prog Tryz.f3 false true false false) := by
  obtain ⟨places, hx⟩ := plays_reads os enc
  refine returnsInHanded_of_row (C := Tryz.checked) (s := OpenSpec.ofChange Rows.playsSpec) ownK2 started (by kernel_rfl) Tryz.func3
    (witness_row_at (enc := enc) (C := Tryz.checked) false ({ World.holding Tryz.prog os ⟨#[], #[], []⟩ with heap := playsHeap (World.holding Tryz.prog os ⟨#[], #[], []⟩).heap } : World) playsArgs rfl (by kernel_rfl) (by kernel_rfl) (by kernel_rfl)
      (OpenSpec.preRow_of_cond 8 hx (by kernel_rfl) (fun k hk => by cases hk) (by kernel_rfl) (plays_met os))) ?_
  intro W base args ds gs before hval0 hW0 _ _ _ hL _ _
  have hW : DataW.Whole enc Tryz.prog Tryz.f3.params.toList [] false W args.toList ds gs before := hW0
  have hval : ∀ (j : Nat) t v, Tryz.f3.params[j]? = some t → args[j]? = some v → Value.okWide Tryz.prog W .any base t v := hval0
  have hW' := hW
  obtain ⟨p, q, hA0, hV, rfl, _, _⟩ := hW
  have hA : DataW.TrodAll enc Tryz.prog W 0 (fun _ => true) true Tryz.f3.params.toList args.toList ds p := hA0
  rw [Tryz.params3] at hA hval
  obtain ⟨v0, vs0, d0, ds0, p0, q0, hargs, rfl, rfl, h0, r0⟩ := trodAll_cons hA
  obtain ⟨v1, vs1, d1, ds1, p1, q1, rfl, rfl, rfl, h1, r1⟩ := trodAll_cons r0
  obtain ⟨rfl, rfl, rfl⟩ := trodAll_nil r1
  obtain rfl : args = #[v0, v1] := by cases args; simp_all
  obtain ⟨rfl, rfl⟩ := trodVars_none hV
  have k0 := h0
  have k1 := h1
  have lt0 : ∀ x ∈ p0, x.block < W.heap.size := by obtain ⟨m, hm⟩ := k0; exact DataW.trod_lt m _ _ _ hm
  have lt1 : ∀ x ∈ p1, x.block < W.heap.size := by obtain ⟨m, hm⟩ := k1; exact DataW.trod_lt m _ _ _ hm
  obtain ⟨c, rfl⟩ := conf_open2 (hval 0 23 v0 rfl rfl) h0
  obtain ⟨s, rfl, rfl, rfl, hs⟩ := Go.ChangeMaps.open_string undS (hval 1 9 v1 rfl rfl) h1
  unfold maxLen at hs
  have es : (Value.string s) = S s.data.toList := by
    show Value.string s = Value.string ⟨s.data.toList.toArray⟩
    simp
  rw [es] at hW' k1 ⊢
  clear hA0 hval0
  refine (plays_walk2 c s.data.toList (by have : s.data.toList.length = s.size := rfl; omega) W (plays_tab hL)).mono fun e W' ⟨he, bel⟩ => ?_
  subst he
  exact ⟨_, rfl, _, _, _, [], _, [], hW', trodAll_mk1 (shut_bool Tryz.underlying4 _), (trodAll_cons_mk (Below.trod laidOut2 (by kernel_rfl) (of_decide_eq_true (by kernel_rfl)) k0 bel lt0) (trodAll_cons_mk (Below.trod laidOut2 (by kernel_rfl) (of_decide_eq_true (by kernel_rfl)) k1 bel lt1) trodAll_mk0)), rfl, bel.frame _, fun h => by cases h⟩

theorem plays_said : Rows.PlaysSaid :=
  OpenClaim.holds_of_cond 3 Tryz.f3 rfl rfl rfl rfl rfl rfl rfl ⟨rfl, rfl, rfl, rfl, rfl⟩ rfl rfl rfl rfl rfl (by kernel_rfl) Tryz.func3 (by kernel_rfl)
    (of_decide_eq_true (by kernel_rfl)) (by unfold Func.isWrapper; first | (rw [if_pos (by decide +kernel)]; kernel_rfl) | (rw [if_neg (by decide +kernel)]; exact ⟨rfl, rfl⟩))
    (fun os started H enc _ F => by rw [OpenClaim.pre_eq_preRow]; exact plays_lifted os started H enc F)

theorem plays_plain (f : FuncId) (fn : Func) (hf : Tryz.pinned.checked.prog.funcNamed "prism/prismlaw.Plays" = some f) (hfn : Tryz.pinned.checked.prog.funcs[f]? = some fn) :
    false = Tryz.pinned.checked.prog.looks [] ∧ ∀ (j : Nat) t, fn.params[j]? = some t → Tryz.pinned.checked.prog.wantsStandIn t = false := by
  obtain rfl : f = 3 := Option.some.inj ((show Tryz.prog.funcNamed "prism/prismlaw.Plays" = some 3 by kernel_rfl).symm.trans hf) |>.symm
  obtain rfl : fn = Tryz.f3 := (Option.some.inj (Tryz.func3.symm.trans hfn)).symm
  refine ⟨by kernel_rfl, fun j t ht => ?_⟩
  rw [Tryz.params3] at ht
  have h3 : t = 23 ∨ t = 9 := by simpa using Array.mem_of_getElem? ht
  rcases h3 with rfl | rfl
  · exact (show Tryz.prog.wantsStandIn 23 = false by kernel_rfl)
  · exact (show Tryz.prog.wantsStandIn 9 = false by kernel_rfl)

theorem plays_holds : Rows.PlaysCardSaid :=
  Claim7.holds_tied_plain_at .later [] _ _ _ _ plays_said (fun _ h => by cases h) (by kernel_rfl) (fun _ h => by cases h) plays_row_tie rfl ⟨rfl, rfl⟩ (by kernel_rfl) rfl plays_plain (by kernel_rfl)

#print axioms plays_holds
end Go.Proofs.YtjnmpejcegmkhaaGreatDoor
