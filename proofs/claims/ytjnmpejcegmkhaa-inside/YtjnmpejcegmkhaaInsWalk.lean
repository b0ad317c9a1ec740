/- The walk of the statement Inside: for every configuration and script the call answers true, and what was there is as it was. -/
import Derived.Test.YtjnmpejcegmkhaaI3
import Derived.Test.YtjnmpejcegmkhaaInsPure
import Derived.Test.YtjnmpejcegmkhaaIns0
import Derived.Test.YtjnmpejcegmkhaaKeep9
import Derived.Test.YtjnmpejcegmkhaaSpZ
namespace Go.Proofs.Ytjnmpejcegmkhaa
open Go.RowKit

theorem hinside_c {w : World} {B hb : Nat} {c : Conf} {S : Gh} {P : PLay} (h : KSt w B hb c S P) :
    Calls Try.prog 25 #[.pointer (some ⟨hb, 0, none⟩)] w fun e w' => e = .returned (.bool true) ∧ Below w.heap.size w w' := by
  have hcf := h.rel.rel.confs
  obtain ⟨w1, w2, w3⟩ := h.told3
  exact kinside_c h.rep S.L.procs h.rel.plen h.rel.rel.np (fun p hp => h.told p hp) c.width.toNat (by rw [w3]; exact w1) w2 c.depth.toNat (by rw [w3]; omega) (rnodes S.L) (h.nodes (Below.refl _ _)) h.rel.shaped h.ins

set_option maxHeartbeats 8000000 in
set_option maxRecDepth 100000 in
theorem inside_walk (c : Conf) (w : World) (v : Value) (n : Nat) (l : Nat → Int × Int × Int) (hs : ScriptAt w v n l) : Calls Try.prog 11 #[confV c, v] w fun e w' => e = .returned (.bool true) ∧ Below w.heap.size w w' := by
  obtain ⟨ao, cap, rfl, n1, n2, h4⟩ := hs.form
  unfold maxLen at n2
  have hba : Below w.heap.size w (w.alloc (.cells #[I c.kind, I c.depth, I c.start, I c.slots, I c.width, I c.spin, I c.drain, I c.procs] 23)) := (Below.refl _ _).alloc (Nat.le_refl _) _
  cases hm : mayC c
  · have hbg := fun W => kbegin_no c W hm
    unfold confV at hbg ⊢
    replace hbg : Hid _ := hbg
    clear hs h4 hm
    go_enter Try.func11, Try.ntmps11
    go_wp2_with fail
    refine Calls.mono (hbg.out _) ?_
    rintro e w1 ⟨rfl, hb1⟩
    go_wp2_with fail
    go_ret
    exact ⟨rfl, hba.trans (hb1.mono hba.size)⟩
  · have hbg := fun W => kbegin_yes c W hm
    unfold confV at hbg ⊢
    replace hbg : Hid _ := hbg
    have HM : Hid _ := hm
    have H4 : Hid _ := h4
    clear hs h4 hm
    go_enter Try.func11, Try.ntmps11
    go_wp2_with fail
    refine Calls.mono (hbg.out _) ?_
    rintro e w1 ⟨hb, P, rfl, hk, hpn, hb1⟩
    have hst := KSt.new HM.out hk hpn hb1.size
    have hbw : Below w.heap.size w w1 := hba.trans (hb1.mono hba.size)
    have hin := hinside_c hst
    replace hin : Hid _ := hin
    have HB : Hid (w.heap.size ≤ (w.alloc (.cells #[I c.kind, I c.depth, I c.start, I c.slots, I c.width, I c.spin, I c.drain, I c.procs] 23)).heap.size) := hba.size
    generalize (w.alloc (.cells #[I c.kind, I c.depth, I c.start, I c.slots, I c.width, I c.spin, I c.drain, I c.procs] 23)).heap.size = B at *
    have HST : Hid _ := hst
    clear hbg hb1 hba hk hpn hst
    go_wp2_with fail
    refine Calls.mono hin.out ?_
    rintro e w2 ⟨rfl, hb2⟩
    have hst := HST.out.below hb2
    have hbz : Below w.heap.size w w2 := hbw.trans (hb2.mono hbw.size)
    clear hin hb2 hbw HST
    replace hst : Hid _ := hst
    go_wp2_with fail
    go_loopw [6, 7] (fun okv ii wr => okv = .bool true ∧ ∃ k : Nat, k ≤ n ∧ ii = .int .i64 k ∧ Hid (∃ S P, KSt wr B hb c S P) ∧ Below w.heap.size w wr) (fun _ ii _ => n - (intOf ii).toNat)
    case atStart => exact ⟨rfl, 0, Nat.zero_le _, rfl, ⟨_, _, hst.out⟩, hbz⟩
    case round =>
      obtain ⟨rfl, k, hk, rfl, hst', hbr⟩ := hrel
      by_cases hlt : k < n
      · obtain ⟨b, off, rfl, lb, p0, p1, p2⟩ := H4.out k hlt
        have d0 := (hbr.cell (p := ⟨b, off + k * 3, none⟩) lb).trans p0
        have d1 := (hbr.cell (p := ⟨b, off + k * 3 + 1, none⟩) lb).trans p1
        have d2 := (hbr.cell (p := ⟨b, off + k * 3 + 2, none⟩) lb).trans p2
        have ld := cell_lt d0
        generalize (l k).1 = o1 at *
        generalize (l k).2.1 = o2 at *
        generalize (l k).2.2 = o3 at *
        obtain ⟨S, P', hst2⟩ := hst'.out
        have hpl := hplay_c hst2 o1 o2 o3
        have HBB : Hid (B ≤ _) := hst2.hB
        replace hpl : Hid _ := hpl
        have bk : decide ((k : Int) < (n : Int)) = true := decide_eq_true (by omega)
        clear p0 p1 p2 H4 hst2 hst' hst
        go_wp2_with fail
        refine Calls.mono hpl.out ?_
        rintro e w3 ⟨rfl, ⟨P3, hst3⟩, hc3⟩
        have hb3 : Below w.heap.size w w3 := hbr.trans ((hc3.below HBB.out).mono HB.out)
        have hin := hinside_c hst3
        replace hin : Hid _ := hin
        replace hst3 : Hid _ := hst3
        clear hpl hc3
        go_wp2_with fail
        refine Calls.mono hin.out ?_
        rintro e w4 ⟨rfl, hb4⟩
        have hst4 := hst3.out.below hb4
        replace hst4 : Hid _ := hst4
        have hb5 : Below w.heap.size w w4 := hb3.trans (hb4.mono hb3.size)
        clear hin hb4 hst3
        go_wp2_with fail
        go_roundw
        case rel => exact ⟨rfl, k + 1, by omega, by go_num, ⟨_, _, hst4.out⟩, hb5⟩
        case measure => simp [intOf]; omega
      · have bk : decide ((k : Int) < (n : Int)) = false := decide_eq_false (by omega)
        clear H4 hst hst'
        go_wp2_with fail
        go_ret
        exact ⟨rfl, hbr⟩

end Go.Proofs.Ytjnmpejcegmkhaa
