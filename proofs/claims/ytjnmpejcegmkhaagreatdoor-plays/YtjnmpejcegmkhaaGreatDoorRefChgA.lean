/- Contracts of package prismref's look of a Fold or an Unfold, and of its change in the phases Shut, Drain and Reopen. Contracts of package prismref's fold and unfold. Contract of package prismref's unfold. Contracts of package prismref's change in the phase Change, and of its Step in the phases Shut, Drain, Change, Reopen. No statement of the seat is proved here. -/
import Derived.Test.YtjnmpejcegmkhaaGreatDoorRefStA
import Derived.Deep.AppendLies
namespace Go.Proofs.YtjnmpejcegmkhaaGreatDoor
open Go.RowKit

set_option maxHeartbeats 4000000 in
set_option maxRecDepth 100000 in
theorem look_shut {w : World} {B : Nat} {L : Lay} (h : RefRep w B L) {i pb v : Nat} {p : Pr} (hp : ProcAt w L i pb p) (hv : p.node = (v : Int)) (hvl : v < L.past.length) (hsh : shutL p.node L.procs = true) :
    Calls Tryz.prog 55 #[.pointer (some ⟨L.tb, 0, none⟩), .pointer (some ⟨pb, 0, none⟩)] w fun e w' => e = .returned (.tuple #[]) ∧ RefRep w' B (L.setP i { p with phase := 2 }) ∧ ChgT B [109] w w' := by
  have hs := shut_c h p.node
  have hf := form_c h v hvl
  have hc := changes_c ⟨p.kind, p.oval, p.onode⟩ w
  unfold opV at hc
  obtain ⟨f1, f2⟩ := nb_facts hp.blk
  have c0 := f1 0
  have c1 := f1 1
  have c2 := f1 2
  have c3 := f1 3
  have c4 := f1 4
  simp only [prCells] at c0 c1 c2 c3 c4
  simp at c0 c1 c2 c3 c4
  rw [hsh] at hs
  rw [hv] at c4 hs
  have HF : Hid (∀ w1 : World, Below w.heap.size w w1 → (w1.cell? ⟨pb, 3, none⟩ = some (I p.phase) ∧ w1.frozen? ⟨pb, 3, none⟩ = false) ∧ ∀ x, RefRep (w1.setCell ⟨pb, 3, none⟩ (I x)) B (L.setP i { p with phase := x }) ∧ ChgT B [109] w (w1.setCell ⟨pb, 3, none⟩ (I x))) := by
    intro w1 hb
    have hp1 := hp.below hb
    obtain ⟨g1, g2⟩ := nb_facts hp1.blk
    refine ⟨⟨by rw [g1 3]; rfl, g2 3⟩, fun x => ?_⟩
    exact hp.wrote h hb ((PutB.refl hp1.blk).set 3 (I x))
  generalize formH (L.hist v) = fo at *
  generalize isChange ⟨p.kind, p.oval, p.onode⟩ = ch at *
  clear h hp f1 hv hsh
  replace hc : Hid _ := hc
  go_enter Tryz.func55, Tryz.ntmps55
  go_wp2_with fail
  refine hs.mono ?_
  rintro e w1 ⟨rfl, rfl⟩
  clear hs
  go_wp2_with fail
  refine hf.mono ?_
  rintro e w2 ⟨rfl, rfl⟩
  clear hf
  go_wp2_with fail
  refine Calls.mono hc.out ?_
  rintro e w3 ⟨rfl, hb⟩
  obtain ⟨⟨z1, z2⟩, z3⟩ := HF.out w3 hb
  replace z3 : Hid _ := z3
  clear HF hb
  go_wp2
  go_end0
  exact ⟨rfl, z3.out _⟩

set_option maxHeartbeats 4000000 in
set_option maxRecDepth 100000 in
theorem look_not {w : World} {B : Nat} {L : Lay} (h : RefRep w B L) {i pb v : Nat} {p : Pr} (hp : ProcAt w L i pb p) (hv : p.node = (v : Int)) (hvl : v < L.past.length) (hk : p.kind = 3 ∨ p.kind = 4) (hsh : shutL p.node L.procs = false) (hf2 : formH (L.hist v) = 2) :
    Calls Tryz.prog 55 #[.pointer (some ⟨L.tb, 0, none⟩), .pointer (some ⟨pb, 0, none⟩)] w fun e w' => e = .returned (.tuple #[]) ∧ RefRep w' B (L.setP i { p with val := 2, phase := 19 }) ∧ ChgT B [109] w w' := by
  have hs := shut_c h p.node
  have hf := form_c h v hvl
  have hc := changes_c ⟨p.kind, p.oval, p.onode⟩ w
  have hch : isChange ⟨p.kind, p.oval, p.onode⟩ = true := by
    unfold isChange
    rcases hk with e | e <;> simp [e]
  rw [hch] at hc
  unfold opV at hc
  obtain ⟨f1, f2⟩ := nb_facts hp.blk
  have c0 := f1 0
  have c1 := f1 1
  have c2 := f1 2
  have c3 := f1 3
  have c4 := f1 4
  simp only [prCells] at c0 c1 c2 c3 c4
  simp at c0 c1 c2 c3 c4
  rw [hsh] at hs
  rw [hf2] at hf
  rw [hv] at c4 hs
  have HF : Hid (∀ w1 : World, Below w.heap.size w w1 → (w1.cell? ⟨pb, 5, none⟩ = some (I p.val) ∧ w1.cell? ⟨pb, 3, none⟩ = some (I p.phase) ∧ ∀ k, w1.frozen? ⟨pb, k, none⟩ = false) ∧ RefRep ((w1.setCell ⟨pb, 5, none⟩ (I 2)).setCell ⟨pb, 3, none⟩ (I 19)) B (L.setP i { p with val := 2, phase := 19 }) ∧ ChgT B [109] w ((w1.setCell ⟨pb, 5, none⟩ (I 2)).setCell ⟨pb, 3, none⟩ (I 19))) := by
    intro w1 hb
    have hp1 := hp.below hb
    obtain ⟨g1, g2⟩ := nb_facts hp1.blk
    refine ⟨⟨by rw [g1 5]; rfl, by rw [g1 3]; rfl, g2⟩, ?_⟩
    exact hp.wrote (p' := { p with val := 2, phase := 19 }) h hb (((PutB.refl hp1.blk).set 5 (I 2)).set 3 (I 19))
  clear h hp f1 hv hsh hch hk hf2
  replace hc : Hid _ := hc
  go_enter Tryz.func55, Tryz.ntmps55
  go_wp2_with fail
  refine hs.mono ?_
  rintro e w1 ⟨rfl, rfl⟩
  clear hs
  go_wp2_with fail
  refine hf.mono ?_
  rintro e w2 ⟨rfl, rfl⟩
  clear hf
  go_wp2_with fail
  refine Calls.mono hc.out ?_
  rintro e w3 ⟨rfl, hb⟩
  obtain ⟨⟨z1, z2, z4⟩, z3⟩ := HF.out w3 hb
  replace z3 : Hid _ := z3
  clear HF hb c0 c1 c2 c3 c4 f2 hc
  go_wp2
  go_end0
  exact ⟨rfl, z3.out⟩


set_option maxHeartbeats 4000000 in
set_option maxRecDepth 100000 in
theorem look_down {w : World} {B : Nat} {L : Lay} (h : RefRep w B L) {i pb v o : Nat} {p : Pr} (hp : ProcAt w L i pb p) (hv : p.node = (v : Int)) (hvl : v < L.past.length) (hv6 : v < 64) (ho : p.onode = (o : Int)) (ho6 : o < 64) (hlt : Nat.log2 v < Nat.log2 o) (hk : p.kind = 3 ∨ p.kind = 4) (hsh : shutL p.node L.procs = false) (hf2 : formH (L.hist v) = 1) :
    Calls Tryz.prog 55 #[.pointer (some ⟨L.tb, 0, none⟩), .pointer (some ⟨pb, 0, none⟩)] w fun e w' => e = .returned (.tuple #[]) ∧ RefRep w' B (L.setP i { p with node := ((o / 2 ^ (Nat.log2 o - Nat.log2 v - 1) : Nat) : Int), phase := if Nat.log2 o - Nat.log2 v = 1 then 15 else 0 }) ∧ ChgT B [109] w w' := by
  have hs := shut_c h p.node
  have hf := form_c h v hvl
  have hc := changes_c ⟨p.kind, p.oval, p.onode⟩ w
  have hch : isChange ⟨p.kind, p.oval, p.onode⟩ = true := by
    unfold isChange
    rcases hk with e | e <;> simp [e]
  rw [hch] at hc
  unfold opV at hc
  have hd1 := fun W => depth_c o ho6 W
  have hd2 := fun W => depth_c v hv6 W
  have l5 := log2_le5 o ho6
  obtain ⟨f1, f2⟩ := nb_facts hp.blk
  have c0 := f1 0
  have c1 := f1 1
  have c2 := f1 2
  have c3 := f1 3
  have c4 := f1 4
  simp only [prCells] at c0 c1 c2 c3 c4
  simp at c0 c1 c2 c3 c4
  rw [hsh] at hs
  rw [hf2] at hf
  rw [hv] at c4 hs
  simp only [ho] at c2 hc
  obtain ⟨d, hd⟩ : ∃ d : Nat, Nat.log2 o = Nat.log2 v + 1 + d := ⟨Nat.log2 o - Nat.log2 v - 1, by omega⟩
  have HF : Hid (∀ (w1 : World) (x : Int), Below w.heap.size w w1 → x = ((o / 2 ^ d : Nat) : Int) → (w1.cell? ⟨pb, 2, none⟩ = some (I o) ∧ w1.cell? ⟨pb, 4, none⟩ = some (I v) ∧ w1.cell? ⟨pb, 3, none⟩ = some (I p.phase) ∧ ∀ k, w1.frozen? ⟨pb, k, none⟩ = false) ∧
      (d = 0 → ∀ W, PutB w1 W pb (prCells { p with node := x, phase := 15 }) 109 → RefRep W B (L.setP i { p with node := ((o / 2 ^ (Nat.log2 o - Nat.log2 v - 1) : Nat) : Int), phase := if Nat.log2 o - Nat.log2 v = 1 then 15 else 0 }) ∧ ChgT B [109] w W) ∧
      (d ≠ 0 → ∀ W, PutB w1 W pb (prCells { p with node := x, phase := 0 }) 109 → RefRep W B (L.setP i { p with node := ((o / 2 ^ (Nat.log2 o - Nat.log2 v - 1) : Nat) : Int), phase := if Nat.log2 o - Nat.log2 v = 1 then 15 else 0 }) ∧ ChgT B [109] w W)) := by
    intro w1 x hb hx
    have hp1 := hp.below hb
    obtain ⟨g1, g2⟩ := nb_facts hp1.blk
    have e1 : Nat.log2 o - Nat.log2 v - 1 = d := by omega
    refine ⟨⟨by rw [g1 2]; simp [prCells, ho], by rw [g1 4]; simp [prCells, hv], by rw [g1 3]; rfl, g2⟩, fun hd0 W hW => ?_, fun hd0 W hW => ?_⟩
    · have := hp.wrote h hb hW
      rw [e1, if_pos (by omega), ← hx]
      exact this
    · have := hp.wrote h hb hW
      rw [e1, if_neg (by omega), ← hx]
      exact this
  have HB : Hid (∀ w1 : World, Below w.heap.size w w1 → PutB w1 w1 pb (prCells p) 109) := fun w1 hb => PutB.refl (hp.below hb).blk
  generalize ({ p with node := ((o / 2 ^ (Nat.log2 o - Nat.log2 v - 1) : Nat) : Int), phase := if Nat.log2 o - Nat.log2 v = 1 then 15 else 0 } : Pr) = lp at *
  generalize Nat.log2 o = lo at *
  generalize Nat.log2 v = lv at *
  clear h hp f1 hv hsh hch hk hf2 ho
  replace hc : Hid _ := hc
  replace hd1 : Hid _ := hd1
  replace hd2 : Hid _ := hd2
  go_enter Tryz.func55, Tryz.ntmps55
  go_wp2_with fail
  refine hs.mono ?_
  rintro e w1 ⟨rfl, rfl⟩
  clear hs
  go_wp2_with fail
  refine hf.mono ?_
  rintro e w2 ⟨rfl, rfl⟩
  clear hf
  go_wp2_with fail
  refine Calls.mono hc.out ?_
  rintro e w3 ⟨rfl, hb⟩
  obtain ⟨⟨g2, g4, g3, gf⟩, -⟩ := HF.out w3 _ hb rfl
  replace hb : Hid _ := hb
  clear c0 c1 c2 c3 c4 f2 hc
  go_wp2_with fail
  have GF : Hid _ := gf
  clear gf
  go_quiet (first | (go_at_call_of 17 (I o); exact Calls.quiet_of_same (hd1.out _)) | (go_at_call_of 17 (I v); exact Calls.quiet_of_same (hd2.out _)))
  have hbq : Below w2.heap.size w2 (w3.drewN nq) := Below.drewN' hb.out nq
  have c2 : (w3.drewN nq).cell? ⟨pb, 2, none⟩ = some (I o) := g2
  have c3 : (w3.drewN nq).cell? ⟨pb, 3, none⟩ = some (I p.phase) := g3
  have c4 : (w3.drewN nq).cell? ⟨pb, 4, none⟩ = some (I v) := g4
  have gf : ∀ k, (w3.drewN nq).frozen? ⟨pb, k, none⟩ = false := GF.out
  clear g2 g3 g4 GF hb hd1 hd2
  generalize w3.drewN nq = wq at *
  have ed : (lv : Int) + 1 + (d : Int) - (lv : Int) = (d : Int) + 1 := by omega
  rw [ed]
  have hd5 : d ≤ 4 := by omega
  clear hd hlt l5 ed
  have hdd : d = 0 ∨ d = 1 ∨ d = 2 ∨ d = 3 ∨ d = 4 := by omega
  clear hd5
  rcases hdd with rfl | rfl | rfl | rfl | rfl
  · go_wp2
    go_end0
    exact ⟨rfl, (HF.out wq _ hbq (by simp)).2.1 (by trivial) _ ((((HB.out wq hbq).set 4 (I _)).set 3 (I 0)).set 3 (I 15))⟩
  all_goals
    go_wp2
    go_end0
    exact ⟨rfl, (HF.out wq _ hbq (by simp)).2.2 (by omega) _ (((HB.out wq hbq).set 4 (I _)).set 3 (I 0))⟩


/-- What Shut, Drain and Reopen make of a Fold or an Unfold. -/
def shutCh (L : Lay) (v : Nat) (p : Pr) : Pr := if shutL p.node L.procs = true ∨ decide (formH (L.hist v) = 1) ≠ decide (p.kind = 3) then upPr { p with val := 2 } else { p with pat := L.c.drain, phase := 16 }
def drainCh (L : Lay) (v : Nat) (p : Pr) : Pr := if insideL v L.procs = 0 then { p with phase := 17 } else if 0 < p.pat then { p with pat := p.pat - 1 } else { p with phase := 18 }

set_option maxHeartbeats 4000000 in
set_option maxRecDepth 100000 in
theorem change_shut {w : World} {B : Nat} {L : Lay} (h : RefRep w B L) {i pb v : Nat} {p : Pr} (hp : ProcAt w L i pb p) (hph : p.phase = 15) (hv : p.node = (v : Int)) (hv9 : v ≤ 1000) (hvl : v < L.past.length) :
    Calls Tryz.prog 60 #[.pointer (some ⟨L.tb, 0, none⟩), .pointer (some ⟨pb, 0, none⟩)] w fun e w' => e = .returned (.tuple #[]) ∧ PutB w w' pb (prCells (shutCh L v p)) 109 := by
  have hs := shut_c h p.node
  have hf := form_c h v hvl
  have he := fun W (hW : PutB w W pb (prCells p) 109) => ends_c hW.blk (by rw [hv]; omega) (by rw [hv]; omega) 2
  obtain ⟨f1, f2⟩ := nb_facts hp.blk
  have c0 := f1 0
  have c3 := f1 3
  have c4 := f1 4
  have c8 := f1 8
  have k6 : w.cell? ⟨L.tb, 6, none⟩ = some (I L.c.drain) := by rw [block_cell h.tree]; rfl
  simp only [prCells] at c0 c3 c4 c8
  simp at c0 c3 c4 c8
  rw [hph] at c3
  rw [hv] at c4 hs
  have HB : Hid (PutB w w pb (prCells p) 109) := PutB.refl hp.blk
  have HP : Hid (PutB w ((w.setCell ⟨pb, 8, none⟩ (I L.c.drain)).setCell ⟨pb, 3, none⟩ (I 16)) pb (prCells { p with pat := L.c.drain, phase := 16 }) 109) := ((PutB.refl hp.blk).set 8 (I L.c.drain)).set 3 (I 16)
  have HS : Hid (shutCh L v p = if shutL p.node L.procs = true ∨ decide (formH (L.hist v) = 1) ≠ decide (p.kind = 3) then upPr { p with val := 2 } else { p with pat := L.c.drain, phase := 16 }) := rfl
  have hsv : shutL p.node L.procs = shutL (v : Int) L.procs := by rw [hv]
  rw [hsv] at HS
  clear hsv
  have hne : L.tb ≠ pb := by
    intro e
    have := h.tree
    rw [e, hp.blk] at this
    simp at this
  generalize shutCh L v p = sp at *
  generalize shutL (v : Int) L.procs = sh at *
  have hb1 : (formH (L.hist v) == 1) = decide (formH (L.hist v) = 1) := rfl
  have hb3 : (p.kind == 3) = decide (p.kind = 3) := rfl
  generalize hk3 : decide (p.kind = 3) = k3 at *
  generalize hk1 : decide (formH (L.hist v) = 1) = k1 at *
  generalize formH (L.hist v) = fo at *
  replace he : Hid _ := he
  clear h hp f1 hph hv hk3 hk1
  cases sh
  · cases k1 <;> cases k3
    case false.false.false | false.true.true =>
      rw [HS.out, if_neg (by simp)]
      clear HS he HB
      go_enter Tryz.func60, Tryz.ntmps60
      go_wp2_with fail
      refine hs.mono ?_
      rintro e w1 ⟨rfl, rfl⟩
      clear hs
      go_wp2_with fail
      refine hf.mono ?_
      rintro e w2 ⟨rfl, rfl⟩
      clear hf
      go_wp2
      go_end0
      exact ⟨rfl, HP.out⟩
    all_goals
      rw [HS.out, if_pos (by simp)]
      clear HS HP
      go_enter Tryz.func60, Tryz.ntmps60
      go_wp2_with fail
      refine hs.mono ?_
      rintro e w1 ⟨rfl, rfl⟩
      clear hs
      go_wp2_with fail
      refine hf.mono ?_
      rintro e w2 ⟨rfl, rfl⟩
      clear hf
      go_wp2_with fail
      refine Calls.mono (he.out _ HB.out) ?_
      rintro e w3 ⟨rfl, hw⟩
      go_wp2_with fail
      exact bodyPost_ret (v := .tuple #[]) (by simp [results, Tryz.results60, go_sem]) rfl ⟨rfl, HB.out.trans hw⟩
  · rw [HS.out, if_pos (by simp)]
    clear HS HP
    go_enter Tryz.func60, Tryz.ntmps60
    go_wp2_with fail
    refine hs.mono ?_
    rintro e w1 ⟨rfl, rfl⟩
    clear hs
    go_wp2_with fail
    refine hf.mono ?_
    rintro e w2 ⟨rfl, rfl⟩
    clear hf
    go_wp2_with fail
    refine Calls.mono (he.out _ HB.out) ?_
    rintro e w3 ⟨rfl, hw⟩
    go_wp2_with fail
    exact bodyPost_ret (v := .tuple #[]) (by simp [results, Tryz.results60, go_sem]) rfl ⟨rfl, HB.out.trans hw⟩

set_option maxHeartbeats 4000000 in
set_option maxRecDepth 100000 in
theorem change_drain {w : World} {B : Nat} {L : Lay} (h : RefRep w B L) (hok : ∀ i, (hi : i < L.procs.length) → NodeOk (L.procs[i]).2) {i pb v : Nat} {p : Pr} (hp : ProcAt w L i pb p) (hph : p.phase = 16) (hv : p.node = (v : Int)) (hp9 : p.pat ≤ 1000000) :
    Calls Tryz.prog 60 #[.pointer (some ⟨L.tb, 0, none⟩), .pointer (some ⟨pb, 0, none⟩)] w fun e w' => e = .returned (.tuple #[]) ∧ PutB w w' pb (prCells (drainCh L v p)) 109 := by
  have hi := inside_c h hok v
  obtain ⟨f1, f2⟩ := nb_facts hp.blk
  have c3 := f1 3
  have c4 := f1 4
  have c8 := f1 8
  simp only [prCells] at c3 c4 c8
  simp at c3 c4 c8
  rw [hph] at c3
  rw [hv] at c4
  have HB := PutB.refl hp.blk
  have HS : Hid (drainCh L v p = if insideL v L.procs = 0 then { p with phase := 17 } else if 0 < p.pat then { p with pat := p.pat - 1 } else { p with phase := 18 }) := rfl
  rw [HS.out]
  generalize insideL v L.procs = ins at *
  clear h hp f1 hv HS hok
  by_cases h0 : ins = 0
  · rw [if_pos h0]
    subst h0
    have HP : Hid (PutB w (w.setCell ⟨pb, 3, none⟩ (I 17)) pb (prCells { p with phase := 17 }) 109) := HB.set 3 (I 17)
    clear HB hph
    go_enter Tryz.func60, Tryz.ntmps60
    go_wp2_with fail
    refine hi.mono ?_
    rintro e w1 ⟨rfl, rfl⟩
    clear hi
    go_wp2
    go_end0
    exact ⟨rfl, HP.out⟩
  · rw [if_neg h0]
    have b1 : ((ins : Int) == 0) = false := by simp; omega
    by_cases hpp : 0 < p.pat
    · rw [if_pos hpp]
      have HP : Hid (PutB w (w.setCell ⟨pb, 8, none⟩ (I (p.pat - 1))) pb (prCells { p with pat := p.pat - 1 }) 109) := HB.set 8 (I (p.pat - 1))
      clear HB hph h0
      go_enter Tryz.func60, Tryz.ntmps60
      go_wp2_with fail
      refine hi.mono ?_
      rintro e w1 ⟨rfl, rfl⟩
      clear hi
      go_wp2
      go_end0
      exact ⟨rfl, HP.out⟩
    · rw [if_neg hpp]
      have b2 : decide (0 < p.pat) = false := by simp; omega
      have HP : Hid (PutB w (w.setCell ⟨pb, 3, none⟩ (I 18)) pb (prCells { p with phase := 18 }) 109) := HB.set 3 (I 18)
      clear HB hph h0
      go_enter Tryz.func60, Tryz.ntmps60
      go_wp2_with fail
      refine hi.mono ?_
      rintro e w1 ⟨rfl, rfl⟩
      clear hi
      go_wp2
      go_end0
      exact ⟨rfl, HP.out⟩

set_option maxHeartbeats 4000000 in
set_option maxRecDepth 100000 in
theorem change_reopen {w : World} {L : Lay} {i pb v : Nat} {p : Pr} (hp : ProcAt w L i pb p) (hph : p.phase = 18) (hv : p.node = (v : Int)) (hv9 : v ≤ 1000) :
    Calls Tryz.prog 60 #[.pointer (some ⟨L.tb, 0, none⟩), .pointer (some ⟨pb, 0, none⟩)] w fun e w' => e = .returned (.tuple #[]) ∧ PutB w w' pb (prCells (upPr { p with val := 3 })) 109 := by
  have he := ends_c hp.blk (by rw [hv]; omega) (by rw [hv]; omega) 3
  obtain ⟨f1, f2⟩ := nb_facts hp.blk
  have c3 := f1 3
  have c4 := f1 4
  simp only [prCells] at c3 c4
  simp at c3 c4
  rw [hph] at c3
  clear hp f1 hph hv
  go_enter Tryz.func60, Tryz.ntmps60
  go_wp2_with fail
  refine he.mono ?_
  rintro e w1 ⟨rfl, hw⟩
  go_wp2
  go_end0
  exact ⟨rfl, hw⟩

/-- One of each in turn, as long as there is one. -/
def altF : Nat → List Int → List Int → List Int
  | 0, _, _ => []
  | _ + 1, [], _ => []
  | f + 1, a :: x, y => a :: altF f y x
def alt (x y : List Int) : List Int := altF (x.length + y.length) x y
/-- A slice that shows a list of numbers. -/
structure Shows (w : World) (v : Value) (l : List Int) (C : Nat) : Prop where
  ex : ∃ ao cap, v = .slice ao l.length cap ∧ l.length ≤ cap ∧ cap ≤ maxLen ∧ ∀ j, (hj : j < l.length) → ∃ g o, ao = some ⟨g, o, none⟩ ∧ g < C ∧ w.cell? ⟨g, o + j, none⟩ = some (I l[j])

theorem Shows.of_row {w : World} {b : Nat} {v : Value} {l : List Int} (h : w.ownsRow b 3 1 v l.length (l.map I)) : Shows w v l w.heap.size := by
  obtain ⟨ao, cap, e1, c1, c2, c3, h2⟩ := ownsRow_cells h
  refine ⟨ao, cap, e1, c1, c3, fun j hj => ?_⟩
  obtain ⟨g, e, _, c⟩ := h2 j (I l[j]) (by simp [hj])
  exact ⟨g, 0, e, cell_lt c, by rw [Nat.zero_add]; exact c⟩
theorem Shows.below {w w' : World} {v : Value} {l : List Int} {C : Nat} (h : Shows w v l C) (hb : Below C w w') : Shows w' v l C := by
  obtain ⟨ao, cap, e1, c1, c3, h2⟩ := h.ex
  refine ⟨ao, cap, e1, c1, c3, fun j hj => ?_⟩
  obtain ⟨g, o, e, hg, c⟩ := h2 j hj
  exact ⟨g, o, e, hg, (hb.cell (p := ⟨g, o + j, none⟩) hg).trans c⟩
theorem Shows.mono {w : World} {v : Value} {l : List Int} {C C' : Nat} (h : Shows w v l C) (hC : C ≤ C') : Shows w v l C' := by
  obtain ⟨ao, cap, e1, c1, c3, h2⟩ := h.ex
  refine ⟨ao, cap, e1, c1, c3, fun j hj => ?_⟩
  obtain ⟨g, o, e, hg, c⟩ := h2 j hj
  exact ⟨g, o, e, by omega, c⟩
theorem Shows.tail {w : World} {ao : Option Addr} {n cap : Nat} {a : Int} {l : List Int} {C : Nat} (h : Shows w (.slice ao n cap) (a :: l) C) : Shows w (.slice (if cap = 1 then ao else ao.map (·.add 1)) l.length (cap - 1)) l C := by
  obtain ⟨ao', cap', e1, c1, c3, h2⟩ := h.ex
  simp only [Value.slice.injEq] at e1
  obtain ⟨rfl, _, rfl⟩ := e1
  simp only [List.length_cons] at c1 h2
  refine ⟨_, _, rfl, by omega, by omega, fun j hj => ?_⟩
  obtain ⟨g, o, e, hg, c⟩ := h2 (j + 1) (by omega)
  subst e
  refine ⟨g, o + 1, ?_, hg, ?_⟩
  · rw [if_neg (by omega)]
    rfl
  · rw [show o + 1 + j = o + (j + 1) from by omega]
    simpa using c

def evT (l : List Int) (k : Nat) : List Int := (List.range k).filterMap fun i => if i % 2 = 0 then l[i]? else none
def odT (l : List Int) (k : Nat) : List Int := (List.range k).filterMap fun i => if i % 2 = 0 then none else l[i]?
theorem evT_even (l : List Int) (k : Nat) (hk : k < l.length) (h : k % 2 = 0) : evT l (k + 1) = evT l k ++ [l[k]] ∧ odT l (k + 1) = odT l k := by
  simp [evT, odT, List.range_succ, List.filterMap_append, h, hk]
theorem evT_odd (l : List Int) (k : Nat) (hk : k < l.length) (h : ¬ k % 2 = 0) : odT l (k + 1) = odT l k ++ [l[k]] ∧ evT l (k + 1) = evT l k := by
  have h' : k % 2 = 1 := by omega
  simp [evT, odT, List.range_succ, List.filterMap_append, h', hk]
theorem evT_le (l : List Int) (k : Nat) : (evT l k).length ≤ k ∧ (odT l k).length ≤ k := by
  constructor
  · exact Nat.le_trans (List.length_filterMap_le _ _) (by simp)
  · exact Nat.le_trans (List.length_filterMap_le _ _) (by simp)


def lenV : Value → Nat
  | .slice _ n _ => n
  | _ => 0

def foldN (L : Lay) (v : Nat) : Int := if L.c.kind = 0 then putsH (L.hist (2 * v)) + putsH (L.hist (2 * v + 1)) else ((alt (itemsH (L.hist (2 * v))) (itemsH (L.hist (2 * v + 1)))).length : Int)
abbrev Lay.folded (L : Lay) (v : Nat) (x1 x2 x3 iv : Value) : Lay :=
  ((L.hap (2 * v) x1 ⟨3, 0, 0, []⟩ (.slice none 0 0)).hap (2 * v + 1) x2 ⟨3, 0, 0, []⟩ (.slice none 0 0)).hap v x3 ⟨2, foldN L v, 0, alt (itemsH (L.hist (2 * v))) (itemsH (L.hist (2 * v + 1)))⟩ iv

theorem hap_hist (L : Lay) (v u : Nat) (x : Value) (ev : Ev) (iv : Value) (hv : v < L.past.length) (hne : u ≠ v) : (L.hap v x ev iv).hist u = L.hist u := by
  have := lay_hist_set L v x ((ev, iv) :: L.hist v) u hv
  rw [if_neg hne] at this
  exact this

set_option maxHeartbeats 4000000 in
set_option maxRecDepth 100000 in
theorem fold_c {w : World} {B : Nat} {L : Lay} (h : RefRep w B L) (hB : B ≤ w.heap.size) (v : Nat) (hv1 : 1 ≤ v) (hv : 2 * v + 1 < L.past.length) (h0 : ∀ u, u < L.past.length → 0 ≤ (fromH (L.hist u)).1.n) (h9 : ∀ u, u < L.past.length → putsH (L.hist u) ≤ 1000000) (hll : ∀ u, u < L.past.length → (L.hist u).length ≤ 1000000) (hm : L.past.length ≤ 1000) (hkd : L.c.kind = 0 ∨ L.c.kind = 1) :
    Calls Tryz.prog 86 #[.pointer (some ⟨L.tb, 0, none⟩), I v] w fun e w' => e = .returned (.tuple #[]) ∧ (∃ x1 x2 x3 iv, RefRep w' B (L.folded v x1 x2 x3 iv)) ∧ ChgT B [91, 69] w w' := by
  have hi1 := fun W (hb : Below w.heap.size w W) => items_c (h.below hb) (2 * v) (by omega) (h0 _ (by omega)) (by have := h9 (2 * v) (by omega); omega)
  have hi2 := fun W (hb : Below w.heap.size w W) => items_c (h.below hb) (2 * v + 1) (by omega) (h0 _ (by omega)) (by have := h9 (2 * v + 1) (by omega); omega)
  have lX : (itemsH (L.hist (2 * v))).length ≤ 1000000 := by have := itemsTo_le (L.hist (2 * v)) (putsH (L.hist (2 * v))).toNat; have := h9 (2 * v) (by omega); unfold itemsH; omega
  have lY : (itemsH (L.hist (2 * v + 1))).length ≤ 1000000 := by have := itemsTo_le (L.hist (2 * v + 1)) (putsH (L.hist (2 * v + 1))).toNat; have := h9 (2 * v + 1) (by omega); unfold itemsH; omega
  have k0 : w.cell? ⟨L.tb, 0, none⟩ = some (I L.c.kind) := by rw [block_cell h.tree]; rfl
  have hsz := h.size
  have e2 : ((2 * v : Nat) : Int) = 2 * (v : Int) := by omega
  have e3 : ((2 * v + 1 : Nat) : Int) = 2 * (v : Int) + 1 := by omega
  have q1 : 0 ≤ putsH (L.hist (2 * v)) ∧ 0 ≤ putsH (L.hist (2 * v + 1)) := by
    have a1 := h0 (2 * v) (by omega)
    have a2 := h0 (2 * v + 1) (by omega)
    unfold putsH
    omega
  have q2 := h9 (2 * v) (by omega)
  have q3 := h9 (2 * v + 1) (by omega)
  have hp1 := fun W (hb : Below w.heap.size w W) => puts_c (h.below hb) (2 * v) (by omega) (h0 _ (by omega)) (by have := h9 (2 * v) (by omega); unfold putsH at this; omega) (by have := h9 (2 * v) (by omega); have := h0 (2 * v) (by omega); unfold putsH at *; omega)
  have hp2 := fun W (hb : Below w.heap.size w W) => puts_c (h.below hb) (2 * v + 1) (by omega) (h0 _ (by omega)) (by have := h9 (2 * v + 1) (by omega); unfold putsH at this; omega) (by have := h9 (2 * v + 1) (by omega); have := h0 (2 * v + 1) (by omega); unfold putsH at *; omega)
  rw [e2] at hi1 hp1
  rw [e3] at hi2 hp2
  replace hp1 : ∀ W, Below w.heap.size w W → Calls Tryz.prog 52 #[.pointer (some ⟨L.tb, 0, none⟩), I (2 * (v : Int))] W fun e w' => e = .returned (I (putsH (L.hist (2 * v)))) ∧ Below W.heap.size W w' := hp1
  replace hp2 : ∀ W, Below w.heap.size w W → Calls Tryz.prog 52 #[.pointer (some ⟨L.tb, 0, none⟩), I (2 * (v : Int) + 1)] W fun e w' => e = .returned (I (putsH (L.hist (2 * v + 1)))) ∧ Below W.heap.size W w' := hp2
  have HN : Hid (∀ (N : Int) (iv : Value), N = foldN L v → ∀ W, Below w.heap.size w W → W.ownsRow B 3 1 iv (alt (itemsH (L.hist (2 * v))) (itemsH (L.hist (2 * v + 1)))).length ((alt (itemsH (L.hist (2 * v))) (itemsH (L.hist (2 * v + 1)))).map I) →
      Calls Tryz.prog 18 #[.pointer (some ⟨L.tb, 0, none⟩), I (2 * (v : Int)), .agg #[I 3, I 0, I 0, .slice none 0 0]] W fun e w1 => e = .returned (.tuple #[]) ∧
        Calls Tryz.prog 18 #[.pointer (some ⟨L.tb, 0, none⟩), I (2 * (v : Int) + 1), .agg #[I 3, I 0, I 0, .slice none 0 0]] w1 fun e w2 => e = .returned (.tuple #[]) ∧
          Calls Tryz.prog 18 #[.pointer (some ⟨L.tb, 0, none⟩), I v, .agg #[I 2, I N, I 0, iv]] w2 fun e w3 => e = .returned (.tuple #[]) ∧ (∃ x1 x2 x3 iv, RefRep w3 B (L.folded v x1 x2 x3 iv)) ∧ ChgT B [91, 69] w w3) := by
    intro N iv hN W hb hrow
    rw [hN]
    have r0 := h.below hb
    have hBW : B ≤ W.heap.size := Nat.le_trans hB hb.size
    have a1 := happens_c r0 hBW (2 * v) (by omega) (by have := hll (2 * v) (by omega); omega) ⟨3, 0, 0, []⟩ (.slice none 0 0) (World.ownsRow_nil _ _ _ _)
    rw [e2] at a1
    refine a1.mono ?_
    rintro e w1 ⟨rfl, ⟨x1, r1⟩, ch1⟩
    refine ⟨rfl, ?_⟩
    have hB1 : B ≤ w1.heap.size := Nat.le_trans hBW ch1.size
    have hn1 : (L.hap (2 * v) x1 ⟨3, 0, 0, []⟩ (.slice none 0 0)).past.length = L.past.length := by simp
    have a2 := happens_c r1 hB1 (2 * v + 1) (by simp; omega) (by rw [hap_hist _ _ _ _ _ _ (by omega) (by omega)]; have := hll (2 * v + 1) (by omega); omega) ⟨3, 0, 0, []⟩ (.slice none 0 0) (World.ownsRow_nil _ _ _ _)
    rw [e3] at a2
    refine a2.mono ?_
    rintro e w2 ⟨rfl, ⟨x2, r2⟩, ch2⟩
    refine ⟨rfl, ?_⟩
    have hB2 : B ≤ w2.heap.size := Nat.le_trans hB1 ch2.size
    have hr2 := ch2.row (ch1.row hrow (by decide)) (by decide)
    have a3 := happens_c r2 hB2 v (by simp; omega) (by
      rw [hap_hist (L.hap (2 * v) x1 ⟨3, 0, 0, []⟩ (.slice none 0 0)) _ _ _ _ _ (by simp; omega) (by omega), hap_hist _ _ _ _ _ _ (by omega) (by omega)]
      have := hll v (by omega); omega) ⟨2, foldN L v, 0, alt (itemsH (L.hist (2 * v))) (itemsH (L.hist (2 * v + 1)))⟩ iv hr2
    refine a3.mono ?_
    rintro e w3 ⟨rfl, ⟨x3, r3⟩, ch3⟩
    exact ⟨rfl, ⟨x1, x2, x3, iv, r3⟩, (((ChgT.of_below hb).trans ch1).trans ch2).trans ch3⟩
  have HF : Hid (foldN L v = if L.c.kind = 0 then putsH (L.hist (2 * v)) + putsH (L.hist (2 * v + 1)) else ((alt (itemsH (L.hist (2 * v))) (itemsH (L.hist (2 * v + 1)))).length : Int)) := rfl
  replace hi1 : Hid _ := hi1
  replace hi2 : Hid _ := hi2
  replace hp1 : Hid _ := hp1
  replace hp2 : Hid _ := hp2
  clear h e2 e3 hll h0 h9
  generalize itemsH (L.hist (2 * v)) = X at *
  generalize itemsH (L.hist (2 * v + 1)) = Y at *
  generalize putsH (L.hist (2 * v)) = p1 at *
  generalize putsH (L.hist (2 * v + 1)) = p2 at *
  obtain ⟨i0, hi0, hz0, hz1, hz2⟩ := info_parts Tryz.info3
  generalize L.past.length = pl at *
  go_enter Tryz.func86, Tryz.ntmps86
  go_wp2_with fail
  refine Calls.mono (hi1.out _ (Below.refl _ _)) ?_
  rintro e w1 ⟨x, rfl, hx, hb1⟩
  go_wp2_with fail
  refine Calls.mono (hi2.out _ hb1) ?_
  rintro e w2 ⟨y, rfl, hy, hb2⟩
  have sx := ((Shows.of_row hx).below hb2).mono hb2.size
  have sy := Shows.of_row hy
  have hb : Below w.heap.size w w2 := hb1.trans (hb2.mono hb1.size)
  have hC : w.heap.size ≤ w2.heap.size := hb.size
  clear hx hy hb1 hb2 hi1 hi2
  go_wp2_with fail
  generalize hCC : w2.heap.size = C at *
  go_loopw [4, 5, 6] (fun x y al wr => ∃ (f : Nat) (xs ys dn : List Int), Hid (dn ++ altF f xs ys = alt X Y) ∧ xs.length + ys.length ≤ f ∧ dn.length + (xs.length + ys.length) ≤ 2000000 ∧ Shows wr x xs C ∧ Shows wr y ys C ∧ wr.ownsRow C 3 1 al dn.length (dn.map I) ∧ Below C w2 wr) (fun x y _ _ => lenV x + lenV y)
  case atStart => exact ⟨X.length + Y.length, X, Y, [], rfl, Nat.le_refl _, by simp; omega, sx, sy, World.ownsRow_nil _ _ _ _, Below.refl _ _⟩
  case round =>
    obtain ⟨f, xs, ys, dn, ha, hf, hl, hx, hy, hown, hbr⟩ := hrel
    have hb3 : Below w.heap.size w wr := hb.trans (hbr.mono hC)
    have k1 := (hb3.cell (p := ⟨L.tb, 0, none⟩) hsz).trans k0
    have hsz2 := hbr.size
    cases xs with
    | nil =>
      obtain ⟨ao, cap, rfl, c1, c2, hx2⟩ := hx.ex
      have HA : dn = alt X Y := by have := ha.out; cases f <;> simp [altF] at this <;> exact this
      subst HA
      obtain ⟨bo, bcap, rfl, b1, b2, b3, _⟩ := ownsRow_cells hown
      have hrow := ownsRow_mono hown (show B ≤ C by omega)
      have hle : (alt X Y).length ≤ 2000000 := by omega
      unfold maxLen at c2 b2 b3
      clear ha hx2 hx hy hown
      simp only [List.length_nil] at c1 ⊢
      have key : ∀ N : Int, N = foldN L v → Hid _ := fun N hN => HN.out N (.slice bo (alt X Y).length bcap) hN
      rcases hkd with hk | hk
      · rw [hk] at k1
        have HF2 : Hid (p1 + p2 = foldN L v) := by show _ = _; rw [HF.out, if_pos hk]
        replace hrow : Hid _ := hrow
        have HN2 := key _ HF2.out
        clear HN HF key HF2
        generalize alt X Y = Z at *
        go_wp2_with fail
        refine Calls.mono (hp1.out _ hb3) ?_
        rintro e w3 ⟨rfl, hb4⟩
        have hb5 : Below w.heap.size w w3 := hb3.trans (hb4.mono hb3.size)
        go_wp2_with fail
        refine Calls.mono (hp2.out _ hb5) ?_
        rintro e w4 ⟨rfl, hb6⟩
        have hb7 : Below w.heap.size w w4 := hb5.trans (hb6.mono hb5.size)
        have hr4 := ownsRow_below (ownsRow_below hrow.out hb4 (Nat.le_refl _)) hb6 (Nat.le_refl _)
        replace hr4 : Hid _ := hr4
        clear hrow hb4 hb5 hb6 hb3
        go_wp2_with fail
        refine Calls.mono (HN2.out _ hb7 hr4.out) ?_
        rintro e w5 ⟨rfl, hc5⟩
        clear HN2 hr4 hb7
        replace hc5 : Hid _ := hc5
        go_wp2_with fail
        refine Calls.mono hc5.out ?_
        rintro e w6 ⟨rfl, hc6⟩
        clear hc5
        replace hc6 : Hid _ := hc6
        go_wp2_with fail
        refine Calls.mono hc6.out ?_
        rintro e w7 ⟨rfl, hc7⟩
        clear hc6
        replace hc7 : Hid _ := hc7
        go_wp2_with fail
        go_end0
        exact ⟨rfl, hc7.out⟩
      · rw [hk] at k1
        have HF2 : Hid (((alt X Y).length : Int) = foldN L v) := by show _ = _; rw [HF.out, if_neg (by omega)]
        replace hrow : Hid _ := hrow
        have HN2 := key _ HF2.out
        clear HN HF key HF2
        generalize alt X Y = Z at *
        go_wp2_with fail
        refine Calls.mono (HN2.out _ hb3 hrow.out) ?_
        rintro e w5 ⟨rfl, hc5⟩
        clear HN2 hrow hb3
        replace hc5 : Hid _ := hc5
        go_wp2_with fail
        refine Calls.mono hc5.out ?_
        rintro e w6 ⟨rfl, hc6⟩
        clear hc5
        replace hc6 : Hid _ := hc6
        go_wp2_with fail
        refine Calls.mono hc6.out ?_
        rintro e w7 ⟨rfl, hc7⟩
        clear hc6
        replace hc7 : Hid _ := hc7
        go_wp2_with fail
        go_end0
        exact ⟨rfl, hc7.out⟩
    | cons a xs =>
      have hx' := hx
      obtain ⟨ao, cap, rfl, c1, c2, hx2⟩ := hx.ex
      obtain ⟨g, o, rfl, hg, cc⟩ := hx2 0 (by simp)
      simp only [Nat.add_zero, List.getElem_cons_zero] at cc
      have ht := hx'.tail
      obtain ⟨bo, bcap, rfl, b1, b2, b3, _⟩ := ownsRow_cells hown
      obtain ⟨yo, ycap, rfl, y1, y2, _⟩ := hy.ex
      simp only [List.length_cons] at c1 hf hl ⊢
      have HA : ∃ f', f = f' + 1 ∧ Hid ((dn ++ [a]) ++ altF f' ys xs = alt X Y) := by
        cases f with
        | zero => omega
        | succ f' => exact ⟨f', rfl, by have := ha.out; simp only [altF] at this; show _ = _; rw [← this]; simp⟩
      obtain ⟨f', rfl, HA'⟩ := HA
      unfold maxLen at c2 b2 b3 y2
      clear ha hx2 hx hx'
      have hsz3 : C ≤ wr.heap.size := by omega
      go_wp2_with (at_builtin; go_must (refine wpList_append_own _ rfl _ _ 37 rfl C 3 i0 (.int .i64 0) 1 8 Tryz.underlying37 hi0 hz0 hz1 hz2 rfl (by decide) _ _ _ rfl (hown.alloc _) ⟨wr.heap.size, 0, none⟩ 1 1 [.int .i64 a] rfl rfl ?c1 ?c2 ?c3 ?c4 ?c5 ?_))
      case c1 => exact cell_one_new _ _ _
      case c2 => intro u hu; simp at hu; subst hu; rfl
      case c3 => unfold maxLen; omega
      case c4 => omega
      case c5 => simp; omega
      intro x' w3 hown' hgrow _
      have hb4 : Below C w2 w3 := (hbr.alloc (by omega) _).grown hgrow (by simp; omega) (fun j hj => (hown.lt j hj).1)
      have hw3 : Below C wr w3 := ((Below.refl C wr).alloc (by omega) _).grown hgrow (by simp; omega) (fun j hj => (hown.lt j hj).1)
      have hx3 := ht.below hw3
      have hy3 := hy.below hw3
      clear hgrow hown ht hy hbr hw3 hb3 k1
      replace hx3 : Hid _ := hx3
      replace hy3 : Hid _ := hy3
      replace hown' : Hid _ := hown'
      go_wp2
      go_roundw
      case rel => exact ⟨f', ys, xs, dn ++ [a], HA', by omega, by simp; omega, hy3.out, hx3.out, by rw [List.length_append, List.map_append]; exact hown'.out, hb4⟩
      case measure => simp [lenV]; omega

def unfN (L : Lay) (v : Nat) : Int := if L.c.kind = 0 then putsH (L.hist v) else ((itemsH (L.hist v)).length : Int)
abbrev Lay.unfolded (L : Lay) (v : Nat) (x1 x2 x3 i1 i2 : Value) : Lay :=
  ((L.hap v x1 ⟨1, unfN L v % 2, 0, []⟩ (.slice none 0 0)).hap (2 * v) x2 ⟨2, (unfN L v + 1) / 2, 0, evT (itemsH (L.hist v)) (itemsH (L.hist v)).length⟩ i1).hap (2 * v + 1) x3 ⟨2, unfN L v / 2, 0, odT (itemsH (L.hist v)) (itemsH (L.hist v)).length⟩ i2

set_option maxHeartbeats 4000000 in
set_option maxRecDepth 100000 in
theorem unfold_c {w : World} {B : Nat} {L : Lay} (h : RefRep w B L) (hB : B ≤ w.heap.size) (v : Nat) (hv1 : 1 ≤ v) (hv : 2 * v + 1 < L.past.length) (h0 : ∀ u, u < L.past.length → 0 ≤ (fromH (L.hist u)).1.n) (h9 : ∀ u, u < L.past.length → putsH (L.hist u) ≤ 1000000) (hll : ∀ u, u < L.past.length → (L.hist u).length ≤ 1000000) (hm : L.past.length ≤ 1000) (hkd : L.c.kind = 0 ∨ L.c.kind = 1) :
    Calls Tryz.prog 85 #[.pointer (some ⟨L.tb, 0, none⟩), I v] w fun e w' => e = .returned (.tuple #[]) ∧ (∃ x1 x2 x3 i1 i2, RefRep w' B (L.unfolded v x1 x2 x3 i1 i2)) ∧ ChgT B [91, 69] w w' := by
  have hi1 := fun W (hb : Below w.heap.size w W) => items_c (h.below hb) v (by omega) (h0 _ (by omega)) (by have := h9 v (by omega); omega)
  have lX : (itemsH (L.hist v)).length ≤ 1000000 := by have := itemsTo_le (L.hist v) (putsH (L.hist v)).toNat; have := h9 v (by omega); unfold itemsH; omega
  have k0 : w.cell? ⟨L.tb, 0, none⟩ = some (I L.c.kind) := by rw [block_cell h.tree]; rfl
  have hsz := h.size
  have e2 : ((2 * v : Nat) : Int) = 2 * (v : Int) := by omega
  have e3 : ((2 * v + 1 : Nat) : Int) = 2 * (v : Int) + 1 := by omega
  have q1 : 0 ≤ putsH (L.hist v) := by
    have a1 := h0 v (by omega)
    unfold putsH
    omega
  have q2 := h9 v (by omega)
  have hp1 := fun W (hb : Below w.heap.size w W) => puts_c (h.below hb) v (by omega) (h0 _ (by omega)) (by have := h9 v (by omega); unfold putsH at this; omega) (by have := h9 v (by omega); have := h0 v (by omega); unfold putsH at *; omega)
  replace hp1 : ∀ W, Below w.heap.size w W → Calls Tryz.prog 52 #[.pointer (some ⟨L.tb, 0, none⟩), I (v : Int)] W fun e w' => e = .returned (I (putsH (L.hist v))) ∧ Below W.heap.size W w' := hp1
  have HN : Hid (∀ (N : Int) (iv jv : Value), N = unfN L v → ∀ W, Below w.heap.size w W → W.ownsRow B 3 1 iv (evT (itemsH (L.hist v)) (itemsH (L.hist v)).length).length ((evT (itemsH (L.hist v)) (itemsH (L.hist v)).length).map I) → W.ownsRow B 3 1 jv (odT (itemsH (L.hist v)) (itemsH (L.hist v)).length).length ((odT (itemsH (L.hist v)) (itemsH (L.hist v)).length).map I) →
      Calls Tryz.prog 18 #[.pointer (some ⟨L.tb, 0, none⟩), I v, .agg #[I 1, I (N % 2), I 0, .slice none 0 0]] W fun e w1 => e = .returned (.tuple #[]) ∧
        Calls Tryz.prog 18 #[.pointer (some ⟨L.tb, 0, none⟩), I (2 * (v : Int)), .agg #[I 2, I ((N + 1) / 2), I 0, iv]] w1 fun e w2 => e = .returned (.tuple #[]) ∧
          Calls Tryz.prog 18 #[.pointer (some ⟨L.tb, 0, none⟩), I (2 * (v : Int) + 1), .agg #[I 2, I (N / 2), I 0, jv]] w2 fun e w3 => e = .returned (.tuple #[]) ∧ (∃ x1 x2 x3 i1 i2, RefRep w3 B (L.unfolded v x1 x2 x3 i1 i2)) ∧ ChgT B [91, 69] w w3) := by
    intro N iv jv hN W hb hr hs
    rw [hN]
    have r0 := h.below hb
    have hBW : B ≤ W.heap.size := Nat.le_trans hB hb.size
    have a1 := happens_c r0 hBW v (by omega) (by have := hll v (by omega); omega) ⟨1, unfN L v % 2, 0, []⟩ (.slice none 0 0) (World.ownsRow_nil _ _ _ _)
    refine a1.mono ?_
    rintro e w1 ⟨rfl, ⟨x1, r1⟩, ch1⟩
    refine ⟨rfl, ?_⟩
    have hB1 : B ≤ w1.heap.size := Nat.le_trans hBW ch1.size
    have hr1 := ch1.row hr (by decide)
    have hs1 := ch1.row hs (by decide)
    have a2 := happens_c r1 hB1 (2 * v) (by simp; omega) (by rw [hap_hist _ _ _ _ _ _ (by omega) (by omega)]; have := hll (2 * v) (by omega); omega) ⟨2, (unfN L v + 1) / 2, 0, evT (itemsH (L.hist v)) (itemsH (L.hist v)).length⟩ iv hr1
    rw [e2] at a2
    refine a2.mono ?_
    rintro e w2 ⟨rfl, ⟨x2, r2⟩, ch2⟩
    refine ⟨rfl, ?_⟩
    have hB2 : B ≤ w2.heap.size := Nat.le_trans hB1 ch2.size
    have hs2 := ch2.row hs1 (by decide)
    have a3 := happens_c r2 hB2 (2 * v + 1) (by simp; omega) (by
      rw [hap_hist (L.hap v x1 ⟨1, unfN L v % 2, 0, []⟩ (.slice none 0 0)) _ _ _ _ _ (by simp; omega) (by omega), hap_hist _ _ _ _ _ _ (by omega) (by omega)]
      have := hll (2 * v + 1) (by omega); omega) ⟨2, unfN L v / 2, 0, odT (itemsH (L.hist v)) (itemsH (L.hist v)).length⟩ jv hs2
    rw [e3] at a3
    refine a3.mono ?_
    rintro e w3 ⟨rfl, ⟨x3, r3⟩, ch3⟩
    exact ⟨rfl, ⟨x1, x2, x3, iv, jv, r3⟩, (((ChgT.of_below hb).trans ch1).trans ch2).trans ch3⟩
  have HF : Hid (unfN L v = if L.c.kind = 0 then putsH (L.hist v) else ((itemsH (L.hist v)).length : Int)) := rfl
  replace hi1 : Hid _ := hi1
  replace hp1 : Hid _ := hp1
  clear h e2 e3 hll h0 h9
  generalize itemsH (L.hist v) = X at *
  generalize putsH (L.hist v) = p1 at *
  obtain ⟨i0, hi0, hz0, hz1, hz2⟩ := info_parts Tryz.info3
  generalize L.past.length = pl at *
  go_enter Tryz.func85, Tryz.ntmps85
  go_wp2_with fail
  refine Calls.mono (hi1.out _ (Below.refl _ _)) ?_
  rintro e w1 ⟨x, rfl, hx, hb1⟩
  have sx := Shows.of_row hx
  obtain ⟨ao, cap, rfl, c1, c2, hx2⟩ := sx.ex
  have k1 := (hb1.cell (p := ⟨L.tb, 0, none⟩) hsz).trans k0
  unfold maxLen at c2
  clear hx hi1
  rcases hkd with hk | hk
  · rw [hk] at k1
    have HF2 : Hid (p1 = unfN L v) := by show _ = _; rw [HF.out, if_pos hk]
    go_wp2_with fail
    refine Calls.mono (hp1.out _ hb1) ?_
    rintro e wb ⟨rfl, hbb⟩
    have hx2 : ∀ j, (hj : j < X.length) → ∃ g o, ao = some ⟨g, o, none⟩ ∧ g < wb.heap.size ∧ wb.cell? ⟨g, o + j, none⟩ = some (I X[j]) := by
      intro j hj
      obtain ⟨g, o, e0, hg, c⟩ := hx2 j hj
      exact ⟨g, o, e0, Nat.lt_of_lt_of_le hg hbb.size, (hbb.cell (p := ⟨g, o + j, none⟩) hg).trans c⟩
    replace hb1 : Below w.heap.size w wb := hb1.trans (hbb.mono hb1.size)
    have hC := hb1.size
    clear HF hbb hp1 sx k1
    go_wp2_with fail
    generalize hCC : wb.heap.size = C at *
    go_loopw [6, 7, 8] (fun x y i wr => ∃ k : Nat, k ≤ X.length ∧ i = .int .i64 k ∧ wr.ownsRow C 3 1 x (evT X k).length ((evT X k).map I) ∧ wr.ownsRow C 3 1 y (odT X k).length ((odT X k).map I) ∧ (∀ g, x.ownBlock = some g → y.ownBlock = some g → False) ∧ Below C wb wr) (fun _ _ i _ => X.length - (intOf i).toNat)
    case atStart => exact ⟨0, by omega, rfl, World.ownsRow_nil _ _ _ _, World.ownsRow_nil _ _ _ _, fun g h => by simp [Value.ownBlock] at h, Below.refl _ _⟩
    case round =>
      obtain ⟨k, hk', rfl, hox, hoy, hap, hbr⟩ := hrel
      have hsz2 := hbr.size
      by_cases hlt : k < X.length
      · obtain ⟨g, o, rfl, hg, cc⟩ := hx2 k hlt
        have cc' := (hbr.cell (p := ⟨g, o + k, none⟩) hg).trans cc
        have hle := evT_le X k
        obtain ⟨xo, xcap, rfl, x1, x2, x3, _⟩ := ownsRow_cells hox
        obtain ⟨yo, ycap, rfl, y1, y2, y3, _⟩ := ownsRow_cells hoy
        by_cases hev : k % 2 = 0
        ·
          obtain ⟨ee, eo⟩ := evT_even X k hlt hev
          have b1 : ((k : Int) % 2 == 0) = true := by simp; omega
          have HE : Hid _ := ee
          have HO : Hid _ := eo
          clear ee eo
          generalize X[k] = a at *
          go_wp2_with (at_builtin; go_must (refine wpList_append_lies _ rfl _ _ 37 rfl C 3 i0 (.int .i64 0) 1 8 Tryz.underlying37 hi0 hz0 hz1 hz2 rfl (by decide) _ _ _ rfl (hox.alloc _) ⟨wr.heap.size, 0, none⟩ 1 1 [.int .i64 a] rfl rfl ?c1 ?c2 (by decide) ?c3 ?c4 ?c5 (wr.heap.size + 1) ?c6 ?_))
          case c1 => exact cell_one_new _ _ _
          case c2 => intro u hu; simp at hu; subst hu; rfl
          case c3 => unfold maxLen; omega
          case c4 => omega
          case c5 => simp; omega
          case c6 => simp
          · intro gx cx w3 ho3 hg3 hl3 _
            have hb3 : Below C wb w3 := (hbr.alloc (by omega) _).grown hg3 (by simp; omega) (fun j hj => (hox.lt j hj).1)
            have hr3 := (hoy.alloc (.cells #[I a] 3)).kept hg3 (by
              cases hx0 : (Value.slice yo (odT X k).length ycap).ownBlock with
              | none => exact Or.inl rfl
              | some g0 => exact Or.inr (fun he => hap g0 he.symm hx0))
            have hap3 : ∀ g', (Value.slice (some ⟨gx, 0, none⟩) ((evT X k).length + 1) cx).ownBlock = some g' → (Value.slice yo (odT X k).length ycap).ownBlock = some g' → False := by
              intro g' a1 a2
              simp only [Value.ownBlock, Option.some.injEq] at a1
              subst a1
              rcases hl3 with hl | hl
              · exact hap _ hl a2
              · have := (hoy.lt _ a2).2; omega
            replace hb3 : Hid _ := hb3
            replace hr3 : Hid _ := hr3
            replace ho3 : Hid _ := ho3
            replace hap3 : Hid _ := hap3
            clear hg3 hl3 hox hoy hap hbr
            go_wp2
            go_roundw
            case rel => exact ⟨k + 1, by omega, by go_num, by rw [HE.out, List.length_append, List.map_append]; exact ho3.out, by rw [HO.out]; exact hr3.out, hap3.out, hb3.out⟩
            case measure => simp [intOf]; omega
        ·
          obtain ⟨ee, eo⟩ := evT_odd X k hlt hev
          have b1 : ((k : Int) % 2 == 0) = false := by simp; omega
          have HE : Hid _ := ee
          have HO : Hid _ := eo
          clear ee eo
          generalize X[k] = a at *
          go_wp2_with (at_builtin; go_must (refine wpList_append_lies _ rfl _ _ 37 rfl C 3 i0 (.int .i64 0) 1 8 Tryz.underlying37 hi0 hz0 hz1 hz2 rfl (by decide) _ _ _ rfl (hoy.alloc _) ⟨wr.heap.size, 0, none⟩ 1 1 [.int .i64 a] rfl rfl ?c1 ?c2 (by decide) ?c3 ?c4 ?c5 (wr.heap.size + 1) ?c6 ?_))
          case c1 => exact cell_one_new _ _ _
          case c2 => intro u hu; simp at hu; subst hu; rfl
          case c3 => unfold maxLen; omega
          case c4 => omega
          case c5 => simp; omega
          case c6 => simp
          · intro gx cx w3 ho3 hg3 hl3 _
            have hb3 : Below C wb w3 := (hbr.alloc (by omega) _).grown hg3 (by simp; omega) (fun j hj => (hoy.lt j hj).1)
            have hr3 := (hox.alloc (.cells #[I a] 3)).kept hg3 (by
              cases hx0 : (Value.slice xo (evT X k).length xcap).ownBlock with
              | none => exact Or.inl rfl
              | some g0 => exact Or.inr (fun he => hap g0 hx0 he.symm))
            have hap3 : ∀ g', (Value.slice xo (evT X k).length xcap).ownBlock = some g' → (Value.slice (some ⟨gx, 0, none⟩) ((odT X k).length + 1) cx).ownBlock = some g' → False := by
              intro g' a2 a1
              simp only [Value.ownBlock, Option.some.injEq] at a1
              subst a1
              rcases hl3 with hl | hl
              · exact hap _ a2 hl
              · have := (hox.lt _ a2).2; omega
            replace hb3 : Hid _ := hb3
            replace hr3 : Hid _ := hr3
            replace ho3 : Hid _ := ho3
            replace hap3 : Hid _ := hap3
            clear hg3 hl3 hox hoy hap hbr
            go_wp2
            go_roundw
            case rel => exact ⟨k + 1, by omega, by go_num, by rw [HO.out]; exact hr3.out, by rw [HE.out, List.length_append, List.map_append]; exact ho3.out, hap3.out, hb3.out⟩
            case measure => simp [intOf]; omega
      · have ek : k = X.length := by omega
        subst ek
        have hb4 : Below w.heap.size w wr := hb1.trans (hbr.mono hC)
        have r1 := ownsRow_mono hox (show B ≤ C by omega)
        have r2 := ownsRow_mono hoy (show B ≤ C by omega)
        have HN2 := HN.out _ _ _ HF2.out wr hb4 r1 r2
        obtain ⟨xo, xcap, rfl, x1, x2, x3, _⟩ := ownsRow_cells hox
        obtain ⟨yo, ycap, rfl, y1, y2, y3, _⟩ := ownsRow_cells hoy
        replace HN2 : Hid _ := HN2
        clear HN r1 r2 hox hoy hap hb4 HF2 hx2
        go_wp2_with fail
        refine Calls.mono HN2.out ?_
        rintro e w5 ⟨rfl, hc5⟩
        clear HN2
        replace hc5 : Hid _ := hc5
        go_wp2_with fail
        refine Calls.mono hc5.out ?_
        rintro e w6 ⟨rfl, hc6⟩
        clear hc5
        replace hc6 : Hid _ := hc6
        go_wp2_with fail
        refine Calls.mono hc6.out ?_
        rintro e w7 ⟨rfl, hc7⟩
        clear hc6
        replace hc7 : Hid _ := hc7
        go_wp2_with fail
        go_end0
        exact ⟨rfl, hc7.out⟩
  · rw [hk] at k1
    have HF2 : Hid ((X.length : Int) = unfN L v) := by show _ = _; rw [HF.out, if_neg (by omega)]
    have hC := hb1.size
    clear HF hp1 sx
    go_wp2_with fail
    clear k1
    generalize hCC : w1.heap.size = C at *
    go_loopw [6, 7, 8] (fun x y i wr => ∃ k : Nat, k ≤ X.length ∧ i = .int .i64 k ∧ wr.ownsRow C 3 1 x (evT X k).length ((evT X k).map I) ∧ wr.ownsRow C 3 1 y (odT X k).length ((odT X k).map I) ∧ (∀ g, x.ownBlock = some g → y.ownBlock = some g → False) ∧ Below C w1 wr) (fun _ _ i _ => X.length - (intOf i).toNat)
    case atStart => exact ⟨0, by omega, rfl, World.ownsRow_nil _ _ _ _, World.ownsRow_nil _ _ _ _, fun g h => by simp [Value.ownBlock] at h, Below.refl _ _⟩
    case round =>
      obtain ⟨k, hk', rfl, hox, hoy, hap, hbr⟩ := hrel
      have hsz2 := hbr.size
      by_cases hlt : k < X.length
      · obtain ⟨g, o, rfl, hg, cc⟩ := hx2 k hlt
        have cc' := (hbr.cell (p := ⟨g, o + k, none⟩) hg).trans cc
        have hle := evT_le X k
        obtain ⟨xo, xcap, rfl, x1, x2, x3, _⟩ := ownsRow_cells hox
        obtain ⟨yo, ycap, rfl, y1, y2, y3, _⟩ := ownsRow_cells hoy
        by_cases hev : k % 2 = 0
        ·
          obtain ⟨ee, eo⟩ := evT_even X k hlt hev
          have b1 : ((k : Int) % 2 == 0) = true := by simp; omega
          have HE : Hid _ := ee
          have HO : Hid _ := eo
          clear ee eo
          generalize X[k] = a at *
          go_wp2_with (at_builtin; go_must (refine wpList_append_lies _ rfl _ _ 37 rfl C 3 i0 (.int .i64 0) 1 8 Tryz.underlying37 hi0 hz0 hz1 hz2 rfl (by decide) _ _ _ rfl (hox.alloc _) ⟨wr.heap.size, 0, none⟩ 1 1 [.int .i64 a] rfl rfl ?c1 ?c2 (by decide) ?c3 ?c4 ?c5 (wr.heap.size + 1) ?c6 ?_))
          case c1 => exact cell_one_new _ _ _
          case c2 => intro u hu; simp at hu; subst hu; rfl
          case c3 => unfold maxLen; omega
          case c4 => omega
          case c5 => simp; omega
          case c6 => simp
          · intro gx cx w3 ho3 hg3 hl3 _
            have hb3 : Below C w1 w3 := (hbr.alloc (by omega) _).grown hg3 (by simp; omega) (fun j hj => (hox.lt j hj).1)
            have hr3 := (hoy.alloc (.cells #[I a] 3)).kept hg3 (by
              cases hx0 : (Value.slice yo (odT X k).length ycap).ownBlock with
              | none => exact Or.inl rfl
              | some g0 => exact Or.inr (fun he => hap g0 he.symm hx0))
            have hap3 : ∀ g', (Value.slice (some ⟨gx, 0, none⟩) ((evT X k).length + 1) cx).ownBlock = some g' → (Value.slice yo (odT X k).length ycap).ownBlock = some g' → False := by
              intro g' a1 a2
              simp only [Value.ownBlock, Option.some.injEq] at a1
              subst a1
              rcases hl3 with hl | hl
              · exact hap _ hl a2
              · have := (hoy.lt _ a2).2; omega
            replace hb3 : Hid _ := hb3
            replace hr3 : Hid _ := hr3
            replace ho3 : Hid _ := ho3
            replace hap3 : Hid _ := hap3
            clear hg3 hl3 hox hoy hap hbr
            go_wp2
            go_roundw
            case rel => exact ⟨k + 1, by omega, by go_num, by rw [HE.out, List.length_append, List.map_append]; exact ho3.out, by rw [HO.out]; exact hr3.out, hap3.out, hb3.out⟩
            case measure => simp [intOf]; omega
        ·
          obtain ⟨ee, eo⟩ := evT_odd X k hlt hev
          have b1 : ((k : Int) % 2 == 0) = false := by simp; omega
          have HE : Hid _ := ee
          have HO : Hid _ := eo
          clear ee eo
          generalize X[k] = a at *
          go_wp2_with (at_builtin; go_must (refine wpList_append_lies _ rfl _ _ 37 rfl C 3 i0 (.int .i64 0) 1 8 Tryz.underlying37 hi0 hz0 hz1 hz2 rfl (by decide) _ _ _ rfl (hoy.alloc _) ⟨wr.heap.size, 0, none⟩ 1 1 [.int .i64 a] rfl rfl ?c1 ?c2 (by decide) ?c3 ?c4 ?c5 (wr.heap.size + 1) ?c6 ?_))
          case c1 => exact cell_one_new _ _ _
          case c2 => intro u hu; simp at hu; subst hu; rfl
          case c3 => unfold maxLen; omega
          case c4 => omega
          case c5 => simp; omega
          case c6 => simp
          · intro gx cx w3 ho3 hg3 hl3 _
            have hb3 : Below C w1 w3 := (hbr.alloc (by omega) _).grown hg3 (by simp; omega) (fun j hj => (hoy.lt j hj).1)
            have hr3 := (hox.alloc (.cells #[I a] 3)).kept hg3 (by
              cases hx0 : (Value.slice xo (evT X k).length xcap).ownBlock with
              | none => exact Or.inl rfl
              | some g0 => exact Or.inr (fun he => hap g0 hx0 he.symm))
            have hap3 : ∀ g', (Value.slice xo (evT X k).length xcap).ownBlock = some g' → (Value.slice (some ⟨gx, 0, none⟩) ((odT X k).length + 1) cx).ownBlock = some g' → False := by
              intro g' a2 a1
              simp only [Value.ownBlock, Option.some.injEq] at a1
              subst a1
              rcases hl3 with hl | hl
              · exact hap _ a2 hl
              · have := (hox.lt _ a2).2; omega
            replace hb3 : Hid _ := hb3
            replace hr3 : Hid _ := hr3
            replace ho3 : Hid _ := ho3
            replace hap3 : Hid _ := hap3
            clear hg3 hl3 hox hoy hap hbr
            go_wp2
            go_roundw
            case rel => exact ⟨k + 1, by omega, by go_num, by rw [HO.out]; exact hr3.out, by rw [HE.out, List.length_append, List.map_append]; exact ho3.out, hap3.out, hb3.out⟩
            case measure => simp [intOf]; omega
      · have ek : k = X.length := by omega
        subst ek
        have hb4 : Below w.heap.size w wr := hb1.trans (hbr.mono hC)
        have r1 := ownsRow_mono hox (show B ≤ C by omega)
        have r2 := ownsRow_mono hoy (show B ≤ C by omega)
        have HN2 := HN.out _ _ _ HF2.out wr hb4 r1 r2
        obtain ⟨xo, xcap, rfl, x1, x2, x3, _⟩ := ownsRow_cells hox
        obtain ⟨yo, ycap, rfl, y1, y2, y3, _⟩ := ownsRow_cells hoy
        replace HN2 : Hid _ := HN2
        clear HN r1 r2 hox hoy hap hb4 HF2 hx2
        go_wp2_with fail
        refine Calls.mono HN2.out ?_
        rintro e w5 ⟨rfl, hc5⟩
        clear HN2
        replace hc5 : Hid _ := hc5
        go_wp2_with fail
        refine Calls.mono hc5.out ?_
        rintro e w6 ⟨rfl, hc6⟩
        clear hc5
        replace hc6 : Hid _ := hc6
        go_wp2_with fail
        refine Calls.mono hc6.out ?_
        rintro e w7 ⟨rfl, hc7⟩
        clear hc6
        replace hc7 : Hid _ := hc7
        go_wp2_with fail
        go_end0
        exact ⟨rfl, hc7.out⟩

set_option maxHeartbeats 8000000 in
theorem rStep_change {w : World} {B : Nat} {L : Lay} (h : RefRep w B L) {i pb : Nat} {p : Pr} (hp : ProcAt w L i pb p) (hph : p.phase = 15 ∨ p.phase = 16 ∨ p.phase = 17 ∨ p.phase = 18) (draw : Int) {R : Int → World → Prop}
    (hc : Calls Tryz.prog 60 #[.pointer (some ⟨L.tb, 0, none⟩), .pointer (some ⟨pb, 0, none⟩)] (w.setCell ⟨pb, 12, none⟩ (I (wrap64 (p.steps + 1)))) fun e w' => e = .returned (.tuple #[]) ∧ ∃ ph, w'.cell? ⟨pb, 3, none⟩ = some (I ph) ∧ R ph w') :
    Calls Tryz.prog 36 #[.pointer (some ⟨L.tb, 0, none⟩), I i, I draw] w fun e w' => ∃ ph, e = .returned (.tuple #[I ph, I 0]) ∧ R ph w' := by
  obtain ⟨g, cap, k8, d1, d2, d3, cg, lg⟩ := hp.slot h
  obtain ⟨f1, f2⟩ := nb_facts hp.blk
  have c3 := f1 3
  have c12 := f1 12
  simp only [prCells] at c3 c12
  simp at c3 c12
  unfold maxLen at d2 d3
  have hi : (i : Int) < (L.procs.length : Int) := by have := hp.hi; omega
  have hi0 : decide ((i : Int) < 0) = false := by simp
  replace hc : Hid _ := hc
  generalize L.procs.length = np at *
  clear h hp f1
  rcases hph with hph | hph | hph | hph
  all_goals
    rw [hph] at c3
    clear hph
    go_enter Tryz.func36, Tryz.ntmps36
    go_wp2_with fail
    refine Calls.mono hc.out ?_
    rintro e w1 ⟨rfl, ph, hf, hR⟩
    replace hR : Hid _ := hR
    clear hc c3 c12 k8 cg f2
    go_wp2
    go_ret2
    exact ⟨ph, rfl, hR.out⟩

section
variable {w : World} {B : Nat} {L : Lay} {i pb v : Nat} {p : Pr}

/-- Behind what has happened at nodes the process is as it was, and ends. -/
theorem ends_then (hp : ProcAt w L i pb p) {w1 : World} {L1 : Lay} (hr1 : RefRep w1 B L1) (hch : ChgT B [91, 69] w w1) (hL1 : L1.procs = L.procs) (hv : p.node = (v : Int)) (hv9 : v ≤ 1000) (x : Int) :
    Calls Tryz.prog 83 #[.pointer (some ⟨pb, 0, none⟩), I x] w1 fun e w' => e = .returned (.tuple #[]) ∧ RefRep w' B (L1.setP i (upPr { p with val := x })) ∧ ChgT B [91, 69, 109] w w' := by
  have hb := hch.at hp.blk (by decide)
  have hp1 : ProcAt w1 L1 i pb p := ⟨by rw [hL1]; exact hp.hi, hb, by rw [hL1]; exact hp.eb, by rw [hL1]; exact hp.ep⟩
  refine (ends_c hb (by rw [hv]; omega) (by rw [hv]; omega) x).mono ?_
  rintro e w' ⟨rfl, hw⟩
  obtain ⟨a, b⟩ := hp1.put hr1 hw
  exact ⟨rfl, a, (hch.mono (Nat.le_refl _) (by simp)).trans (b.mono (Nat.le_refl _) (by simp))⟩

set_option maxHeartbeats 4000000 in
theorem change_unfold (h : RefRep w B L) (hB : B ≤ w.heap.size) (hp : ProcAt w L i pb p) (hph : p.phase = 17) (hk : p.kind = 4) (hv : p.node = (v : Int)) (hv1 : 1 ≤ v) (hvl : 2 * v + 1 < L.past.length) (h0 : ∀ u, u < L.past.length → 0 ≤ (fromH (L.hist u)).1.n) (h9 : ∀ u, u < L.past.length → putsH (L.hist u) ≤ 1000000) (hll : ∀ u, u < L.past.length → (L.hist u).length ≤ 1000000) (hm : L.past.length ≤ 1000) (hkd : L.c.kind = 0 ∨ L.c.kind = 1) :
    Calls Tryz.prog 60 #[.pointer (some ⟨L.tb, 0, none⟩), .pointer (some ⟨pb, 0, none⟩)] w fun e w' => e = .returned (.tuple #[]) ∧ (∃ x1 x2 x3 i1 i2, RefRep w' B ((L.unfolded v x1 x2 x3 i1 i2).setP i (upPr { p with val := 1 }))) ∧ ChgT B [91, 69, 109] w w' := by
  have hu := unfold_c h hB v hv1 hvl h0 h9 hll hm hkd
  have HE : Hid (∀ w1 x1 x2 x3 i1 i2, RefRep w1 B (L.unfolded v x1 x2 x3 i1 i2) → ChgT B [91, 69] w w1 → Calls Tryz.prog 83 #[.pointer (some ⟨pb, 0, none⟩), I 1] w1 fun e w' => e = .returned (.tuple #[]) ∧ RefRep w' B ((L.unfolded v x1 x2 x3 i1 i2).setP i (upPr { p with val := 1 })) ∧ ChgT B [91, 69, 109] w w') := fun w1 x1 x2 x3 i1 i2 a b => ends_then hp a b rfl hv (by omega) 1
  obtain ⟨f1, f2⟩ := nb_facts hp.blk
  have c0 := f1 0
  have c3 := f1 3
  have c4 := f1 4
  simp only [prCells] at c0 c3 c4
  simp at c0 c3 c4
  rw [hph] at c3
  rw [hk] at c0
  rw [hv] at c4
  replace hu : Hid _ := hu
  clear h hp f1 hph hv hk h0 h9 hll
  go_enter Tryz.func60, Tryz.ntmps60
  go_wp2_with fail
  refine Calls.mono hu.out ?_
  rintro e w1 ⟨rfl, ⟨x1, x2, x3, i1, i2, hr⟩, hch⟩
  have he := HE.out w1 x1 x2 x3 i1 i2 hr hch
  replace he : Hid _ := he
  clear HE hr hch hu
  go_wp2_with fail
  refine Calls.mono he.out ?_
  rintro e w2 ⟨rfl, a, b⟩
  go_wp2_with fail
  exact bodyPost_ret (v := .tuple #[]) (by simp [results, Tryz.results60, go_sem]) rfl ⟨rfl, ⟨x1, x2, x3, i1, i2, a⟩, b⟩

set_option maxHeartbeats 4000000 in
theorem change_not (h : RefRep w B L) (hp : ProcAt w L i pb p) (hph : p.phase = 17) (hk : p.kind = 3) (hv : p.node = (v : Int)) (hvl : 2 * v + 1 < L.past.length) (hm : L.past.length ≤ 1000) (hin : formH (L.hist (2 * v)) = 1 ∨ formH (L.hist (2 * v + 1)) = 1) :
    Calls Tryz.prog 60 #[.pointer (some ⟨L.tb, 0, none⟩), .pointer (some ⟨pb, 0, none⟩)] w fun e w' => e = .returned (.tuple #[]) ∧ PutB w w' pb (prCells (upPr { p with val := 4 })) 109 := by
  have hf0 := form_c h (2 * v) (by omega)
  have hf1 := form_c h (2 * v + 1) hvl
  have he := ends_c hp.blk (by rw [hv]; omega) (by rw [hv]; omega) 4
  have e2 : ((2 * v : Nat) : Int) = 2 * (v : Int) := by omega
  have e3 : ((2 * v + 1 : Nat) : Int) = 2 * (v : Int) + 1 := by omega
  rw [e2] at hf0
  rw [e3] at hf1
  clear e2 e3
  obtain ⟨f1, f2⟩ := nb_facts hp.blk
  have c0 := f1 0
  have c3 := f1 3
  have c4 := f1 4
  simp only [prCells] at c0 c3 c4
  simp at c0 c3 c4
  rw [hph] at c3
  rw [hk] at c0
  rw [hv] at c4
  replace he : Hid _ := he
  generalize formH (L.hist (2 * v)) = a at *
  generalize formH (L.hist (2 * v + 1)) = b at *
  clear h hp f1 hph hv hk
  by_cases ha : a = 1
  · have b1 : (a == 1) = true := by simp [ha]
    clear hin ha
    go_enter Tryz.func60, Tryz.ntmps60
    go_wp2_with fail
    refine hf0.mono ?_
    rintro e w1 ⟨rfl, rfl⟩
    clear hf0
    go_wp2_with fail
    refine hf1.mono ?_
    rintro e w2 ⟨rfl, rfl⟩
    clear hf1
    go_wp2_with fail
    refine Calls.mono he.out ?_
    rintro e w3 ⟨rfl, hw⟩
    go_wp2_with fail
    exact bodyPost_ret (v := .tuple #[]) (by simp [results, Tryz.results60, go_sem]) rfl ⟨rfl, hw⟩
  · have b1 : (a == 1) = false := by simp [ha]
    have b2 : (b == 1) = true := by simp; omega
    clear hin ha
    go_enter Tryz.func60, Tryz.ntmps60
    go_wp2_with fail
    refine hf0.mono ?_
    rintro e w1 ⟨rfl, rfl⟩
    clear hf0
    go_wp2_with fail
    refine hf1.mono ?_
    rintro e w2 ⟨rfl, rfl⟩
    clear hf1
    go_wp2_with fail
    refine Calls.mono he.out ?_
    rintro e w3 ⟨rfl, hw⟩
    go_wp2_with fail
    exact bodyPost_ret (v := .tuple #[]) (by simp [results, Tryz.results60, go_sem]) rfl ⟨rfl, hw⟩

set_option maxHeartbeats 4000000 in
theorem change_fold (h : RefRep w B L) (hB : B ≤ w.heap.size) (hp : ProcAt w L i pb p) (hph : p.phase = 17) (hk : p.kind = 3) (hv : p.node = (v : Int)) (hv1 : 1 ≤ v) (hvl : 2 * v + 1 < L.past.length) (h0 : ∀ u, u < L.past.length → 0 ≤ (fromH (L.hist u)).1.n) (h9 : ∀ u, u < L.past.length → putsH (L.hist u) ≤ 1000000) (hll : ∀ u, u < L.past.length → (L.hist u).length ≤ 1000000) (hm : L.past.length ≤ 1000) (hkd : L.c.kind = 0 ∨ L.c.kind = 1) (hi0 : formH (L.hist (2 * v)) ≠ 1) (hi1 : formH (L.hist (2 * v + 1)) ≠ 1) :
    Calls Tryz.prog 60 #[.pointer (some ⟨L.tb, 0, none⟩), .pointer (some ⟨pb, 0, none⟩)] w fun e w' => e = .returned (.tuple #[]) ∧ (∃ x1 x2 x3 iv, RefRep w' B ((L.folded v x1 x2 x3 iv).setP i (upPr { p with val := 1 }))) ∧ ChgT B [91, 69, 109] w w' := by
  have hu := fold_c h hB v hv1 hvl h0 h9 hll hm hkd
  have HE : Hid (∀ w1 x1 x2 x3 iv, RefRep w1 B (L.folded v x1 x2 x3 iv) → ChgT B [91, 69] w w1 → Calls Tryz.prog 83 #[.pointer (some ⟨pb, 0, none⟩), I 1] w1 fun e w' => e = .returned (.tuple #[]) ∧ RefRep w' B ((L.folded v x1 x2 x3 iv).setP i (upPr { p with val := 1 })) ∧ ChgT B [91, 69, 109] w w') := fun w1 x1 x2 x3 iv a b => ends_then hp a b rfl hv (by omega) 1
  have hf0 := form_c h (2 * v) (by omega)
  have hf1 := form_c h (2 * v + 1) hvl
  have e2 : ((2 * v : Nat) : Int) = 2 * (v : Int) := by omega
  have e3 : ((2 * v + 1 : Nat) : Int) = 2 * (v : Int) + 1 := by omega
  rw [e2] at hf0
  rw [e3] at hf1
  clear e2 e3
  obtain ⟨f1, f2⟩ := nb_facts hp.blk
  have c0 := f1 0
  have c3 := f1 3
  have c4 := f1 4
  simp only [prCells] at c0 c3 c4
  simp at c0 c3 c4
  rw [hph] at c3
  rw [hk] at c0
  rw [hv] at c4
  have b1 : (formH (L.hist (2 * v)) == 1) = false := by simp [hi0]
  have b2 : (formH (L.hist (2 * v + 1)) == 1) = false := by simp [hi1]
  replace hu : Hid _ := hu
  generalize formH (L.hist (2 * v)) = fa at *
  generalize formH (L.hist (2 * v + 1)) = fb at *
  clear h hp f1 hph hv hk h0 h9 hll hi0 hi1
  go_enter Tryz.func60, Tryz.ntmps60
  go_wp2_with fail
  refine hf0.mono ?_
  rintro e w0 ⟨rfl, rfl⟩
  clear hf0
  go_wp2_with fail
  refine hf1.mono ?_
  rintro e w0' ⟨rfl, rfl⟩
  clear hf1
  go_wp2_with fail
  refine Calls.mono hu.out ?_
  rintro e w1 ⟨rfl, ⟨x1, x2, x3, iv, hr⟩, hch⟩
  have he := HE.out w1 x1 x2 x3 iv hr hch
  replace he : Hid _ := he
  clear HE hr hch hu
  go_wp2_with fail
  refine Calls.mono he.out ?_
  rintro e w2 ⟨rfl, a, b⟩
  go_wp2_with fail
  go_end0
  exact ⟨rfl, ⟨x1, x2, x3, iv, a⟩, b⟩
end

end Go.Proofs.YtjnmpejcegmkhaaGreatDoor
