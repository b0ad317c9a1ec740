/- The contract of package prismkeep's spawn, of an Inc, a Put or a Get. No statement of the seat is proved here. -/
import Derived.Test.YtjnmpejcegmkhaaKeep4
import Derived.Deep.RegionWith
namespace Go.Proofs.Ytjnmpejcegmkhaa
open Go.RowKit

set_option maxHeartbeats 8000000 in
set_option maxRecDepth 100000 in
theorem kspawn_no {w : World} {B hb : Nat} {P : PLay} {ops : List Op3} {went : List Bool} (h : KRep w B hb P ops went) (kd vl nd : Int) (hk : kd = 0 ∨ kd = 1 ∨ kd = 2) (e0 : Int) (he : refusalW P kd = e0) (he0 : e0 ≠ 0)
    (hs : ∀ W, PRep W B P → Calls Try.prog 40 #[.pointer (some ⟨P.tb, 0, none⟩), .agg #[I kd, I vl, I nd]] W fun x w' => x = .returned (.tuple #[I 0, I e0]) ∧ Below W.heap.size W w') :
    Calls Try.prog 18 #[.pointer (some ⟨hb, 0, none⟩), .agg #[I kd, I vl, I nd]] w fun e w' => e = .returned (.bool true) ∧ Below w.heap.size w w' := by
  have hr := fun W (hw : Below w.heap.size w W) => krefusal_walk (h.below hw) kd vl nd hk
  rw [he] at hr
  have hsp := fun W (hw : Below w.heap.size w W) => hs W (h.prog.below hw)
  have HT : Hid (∀ W, Below w.heap.size w W → W.cell? ⟨hb, 0, none⟩ = some (.pointer (some ⟨P.tb, 0, none⟩))) := fun W hw => (h.below hw).t
  have l0 := cell_lt h.t
  have b0 : (e0 != 0) = true := by simp [he0]
  have hba : Below w.heap.size w (w.alloc (.cells #[I kd, I vl, I nd] 33)) := (Below.refl _ _).alloc (Nat.le_refl _) _
  have noa : (w.alloc (.cells #[I kd, I vl, I nd] 33)).heap[w.heap.size]? = some (.cells #[I kd, I vl, I nd] 33 (0, 0)) := nb_alloc _ _ _
  replace hr : Hid _ := hr
  replace hsp : Hid _ := hsp
  clear h hs he he0 hk
  go_enter Try.func18, Try.ntmps18
  go_wp2_with fail
  refine Calls.mono (hr.out _ hba) ?_
  rintro e w1 ⟨rfl, hb1⟩
  have hb2 : Below w.heap.size w w1 := hba.trans (hb1.mono (by simp))
  have nx : w1.heap[w.heap.size]? = some (.cells #[I kd, I vl, I nd] 33 (0, 0)) := (hb1.block _ (by simp)).trans noa
  obtain ⟨x1, _⟩ := nb_facts nx
  have l1 := (Array.getElem?_eq_some_iff.1 nx).1
  have c0 := HT.out w1 hb2
  clear hb1 hr hba noa nx
  go_wp2_with fail
  go_region_with (go_at_call 40; refine (hsp.out _ (by first | exact hb2.drew | exact (hb2.alloc hb2.size _).drew)).mono ?_; rintro e w2 ⟨rfl, hb3⟩)
  all_goals
    go_wp2
    go_ret
    exact ⟨rfl, hb2.drew.trans (hb3.mono hb2.size)⟩

end Go.Proofs.Ytjnmpejcegmkhaa
