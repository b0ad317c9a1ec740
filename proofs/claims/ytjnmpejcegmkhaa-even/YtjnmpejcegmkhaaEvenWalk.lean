/- The walk of the statement Even: for every configuration, script and list of picks the call answers true, and what was there is as it was. -/
import Derived.Test.YtjnmpejcegmkhaaEven2
import Derived.Test.YtjnmpejcegmkhaaSet2
import Derived.Test.YtjnmpejcegmkhaaKeep9
import Derived.Test.YtjnmpejcegmkhaaLift
namespace Go.Proofs.Ytjnmpejcegmkhaa
open Go.RowKit

theorem PicksIn.at {w W : World} {B : Nat} {v : Value} {n : Nat} {f : Nat → Int} (h : PicksIn w v n f) (hb : Below w.heap.size w W) (hB : w.heap.size ≤ B) : PicksAt W B v n f := by
  obtain ⟨ao, cap, h1, h2, h3, h4⟩ := h.form
  refine ⟨⟨ao, cap, h1, h2, h3, fun i hi => ?_⟩⟩
  obtain ⟨a, b, off, e, lb, cb⟩ := h4 i hi
  exact ⟨a, b, off, e, by omega, Nat.lt_of_lt_of_le lb hb.size, (hb.cell (p := ⟨b, off + i, none⟩) lb).trans cb⟩

set_option maxHeartbeats 8000000 in
set_option maxRecDepth 100000 in
theorem even_walk (c : Conf) (w : World) (v : Value) (n : Nat) (l : Nat → Int × Int × Int) (hs : ScrAt w v n l) (pv : Value) (m : Nat) (pf : Nat → Int) (hpk : PicksIn w pv m pf) : Calls Try.prog 12 #[confV c, v, pv] w fun e w' => e = .returned (.bool true) ∧ Below w.heap.size w w' := by
  obtain ⟨ao, cap, rfl, n1, n2, h4⟩ := hs.form
  unfold maxLen at n2
  have HPK : Hid _ := hpk
  obtain ⟨ap, cp, epv, _⟩ := hpk.form
  subst epv
  clear hpk
  have hba : Below w.heap.size w (w.alloc (.cells #[I c.kind, I c.depth, I c.start, I c.slots, I c.width, I c.spin, I c.drain, I c.procs] 23)) := (Below.refl _ _).alloc (Nat.le_refl _) _
  cases hm : mayC c
  · have hbg := fun W => kbegin_no c W hm
    unfold confV at hbg ⊢
    replace hbg : Hid _ := hbg
    clear hs h4 hm
    go_enter Try.func12, Try.ntmps12
    go_wp2_with fail
    refine Calls.mono (hbg.out _) ?_
    rintro e w1 ⟨rfl, hb1⟩
    go_wp2_with fail
    go_ret
    exact ⟨rfl, hba.trans (hb1.mono hba.size)⟩
  · have hbg := fun W => kbegin_yes c W hm
    unfold confV at hbg ⊢
    replace hbg : Hid _ := hbg
    have HM : Hid _ := hm
    have H4 : Hid _ := h4
    clear hs h4 hm
    go_enter Try.func12, Try.ntmps12
    go_wp2_with fail
    refine Calls.mono (hbg.out _) ?_
    rintro e w1 ⟨hb, P, rfl, hk, hpn, hb1⟩
    have hst := KSt.new HM.out hk hpn hb1.size
    have hbw : Below w.heap.size w w1 := hba.trans (hb1.mono hba.size)
    have hx0 := XOk.new c
    have hs0 : StillW (⟨newLay c, [], []⟩ : Gh) := fun p hp => absurd hp (Nat.not_lt_zero _)
    have hin := keven_c hst hx0 hs0
    replace hin : Hid _ := hin
    have HB : Hid (w.heap.size ≤ (w.alloc (.cells #[I c.kind, I c.depth, I c.start, I c.slots, I c.width, I c.spin, I c.drain, I c.procs] 23)).heap.size) := hba.size
    generalize (w.alloc (.cells #[I c.kind, I c.depth, I c.start, I c.slots, I c.width, I c.spin, I c.drain, I c.procs] 23)).heap.size = B at *
    have HST : Hid (KSt w1 B hb c ⟨newLay c, [], []⟩ P) := hst
    have HX : Hid (XOk c (newLay c)) := hx0
    clear hbg hb1 hba hk hpn hst hs0 hx0
    go_wp2_with fail
    refine Calls.mono hin.out ?_
    rintro e w2 ⟨rfl, hb2⟩
    have hst := HST.out.below hb2
    have hbz : Below w.heap.size w w2 := hbw.trans (hb2.mono hbw.size)
    have HSX : Hid (∃ S P, KSt w2 B hb c S P ∧ XOk c S.L) := ⟨_, _, hst, HX.out⟩
    clear hin hb2 hbw HST hst HX
    go_wp2_with fail
    go_loopw [8, 9, 10] (fun _ ii _ wr => ∃ k : Nat, k ≤ n ∧ ii = .int .i64 k ∧ Hid (∃ S P, KSt wr B hb c S P ∧ XOk c S.L) ∧ Below w.heap.size w wr) (fun _ ii _ _ => n - (intOf ii).toNat)
    case atStart => exact ⟨0, Nat.zero_le _, rfl, HSX.out, hbz⟩
    case round =>
      obtain ⟨k, hk, rfl, hst', hbr⟩ := hrel
      obtain ⟨S, P', hst2, hx2⟩ := hst'.out
      by_cases hlt : k < n
      · obtain ⟨b, off, rfl, lb, p0, p1, p2⟩ := H4.out k hlt
        have d0 := (hbr.cell (p := ⟨b, off + k * 3, none⟩) lb).trans p0
        have d1 := (hbr.cell (p := ⟨b, off + k * 3 + 1, none⟩) lb).trans p1
        have d2 := (hbr.cell (p := ⟨b, off + k * 3 + 2, none⟩) lb).trans p2
        have ld := cell_lt d0
        generalize (l k).1 = o1 at *
        generalize (l k).2.1 = o2 at *
        generalize (l k).2.2 = o3 at *
        have hpl := hplay_c hst2 o1 o2 o3
        have HX3 : Hid (XOk c (gplay c S o1 o2 o3).L) := XOk.play hst2 hx2 o1 o2 o3
        have HBB : Hid (B ≤ _) := hst2.hB
        replace hpl : Hid _ := hpl
        have bk : decide ((k : Int) < (n : Int)) = true := decide_eq_true (by omega)
        clear p0 p1 p2 H4 hst2 hst' HSX hx2 HPK
        generalize gplay c S o1 o2 o3 = S3 at *
        go_wp2_with fail
        refine Calls.mono hpl.out ?_
        rintro e w3 ⟨rfl, ⟨P3, hst3⟩, hc3⟩
        have hb3 : Below w.heap.size w w3 := hbr.trans ((hc3.below HBB.out).mono HB.out)
        have hsl := kstill_c hst3
        replace hsl : Hid _ := hsl
        have HS3 : Hid (KSt w3 B hb c S3 P3) := hst3
        clear hpl hc3 hst3
        go_wp2_with fail
        refine Calls.mono hsl.out ?_
        rintro e w4 ⟨⟨b4, rfl, hb4i⟩, hb4⟩
        have hst4 := HS3.out.below hb4
        have hb5 : Below w.heap.size w w4 := hb3.trans (hb4.mono hb3.size)
        clear hsl hb4 hb3 HS3
        cases b4
        · have HS4 : Hid (∃ S P, KSt w4 B hb c S P ∧ XOk c S.L) := ⟨_, _, hst4, HX3.out⟩
          clear hst4 hb4i
          go_wp2_with fail
          go_roundw
          case rel => exact ⟨k + 1, by omega, by go_num, HS4.out, hb5⟩
          case measure => simp [intOf]; omega
        · have hev := keven_c hst4 HX3.out (hb4i.1 rfl)
          replace hev : Hid _ := hev
          have HS4 : Hid (KSt w4 B hb c S3 P3) := hst4
          clear hst4 hb4i
          go_wp2_with fail
          refine Calls.mono hev.out ?_
          rintro e w5 ⟨rfl, hb6⟩
          have HS5 : Hid (∃ S P, KSt w5 B hb c S P ∧ XOk c S.L) := ⟨_, _, HS4.out.below hb6, HX3.out⟩
          have hb7 : Below w.heap.size w w5 := hb5.trans (hb6.mono hb5.size)
          clear hev hb6 HS4
          go_wp2_with fail
          go_roundw
          case rel => exact ⟨k + 1, by omega, by go_num, HS5.out, hb7⟩
          case measure => simp [intOf]; omega
      · have bk : decide ((k : Int) < (n : Int)) = false := decide_eq_false (by omega)
        have hse := ksettle_c hst2 hx2 _ m pf (PicksIn.at HPK.out hbr HB.out)
        replace hse : Hid _ := hse
        clear H4 HSX hst' hst2 hx2
        go_wp2_with fail
        refine Calls.mono hse.out ?_
        rintro e w3 ⟨rfl, ⟨S3, P3, hst3, hx3, _, harr⟩, hb3⟩
        have hsw : StillW S3 := fun p hp _ _ => harr p hp
        have hb4 : Below w.heap.size w w3 := hbr.trans (hb3.mono HB.out)
        have hsl := kstill_c hst3
        replace hsl : Hid _ := hsl
        have HS3 : Hid (KSt w3 B hb c S3 P3) := hst3
        have HX3 : Hid (XOk c S3.L) := hx3
        have HSW : Hid (StillW S3) := hsw
        clear hse hst3 hx3 harr hsw hb3
        go_wp2_with fail
        refine Calls.mono hsl.out ?_
        rintro e w4 ⟨⟨b4, rfl, hb4i⟩, hb5⟩
        obtain rfl : b4 = true := hb4i.2 HSW.out
        have hev := keven_c (HS3.out.below hb5) HX3.out HSW.out
        replace hev : Hid _ := hev
        have hb6 : Below w.heap.size w w4 := hb4.trans (hb5.mono hb4.size)
        clear hsl hb4i hb5
        go_wp2_with fail
        refine Calls.mono hev.out ?_
        rintro e w5 ⟨rfl, hb7⟩
        clear hev
        go_wp2_with fail
        go_ret
        exact ⟨rfl, hb6.trans (hb7.mono hb6.size)⟩

end Go.Proofs.Ytjnmpejcegmkhaa
