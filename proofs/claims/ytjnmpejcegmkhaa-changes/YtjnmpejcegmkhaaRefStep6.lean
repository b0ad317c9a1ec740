/- Contracts of package prismref's look, of an Inc, a Put or a Get. No statement of the seat is proved here. -/
import Derived.Test.YtjnmpejcegmkhaaRefStep5
namespace Go.Proofs.Ytjnmpejcegmkhaa
open Go.RowKit

theorem ProcAt.below {w w' : World} {L : Lay} {i pb : Nat} {p : Pr} (hp : ProcAt w L i pb p) (hb : Below w.heap.size w w') : ProcAt w' L i pb p := by
  refine ⟨hp.hi, ?_, hp.eb, hp.ep⟩
  rw [hb.block pb (by
    rcases Nat.lt_or_ge pb w.heap.size with h | h
    · exact h
    · have := hp.blk
      rw [Array.getElem?_eq_none h] at this
      simp at this)]
  exact hp.blk

/-- Behind a call that reads, one field of a process is written. -/
theorem ProcAt.wrote {w w1 w' : World} {B : Nat} {L : Lay} {i pb : Nat} {p p' : Pr} (hp : ProcAt w L i pb p) (h : RefRep w B L) (hb : Below w.heap.size w w1) (hw : PutB w1 w' pb (prCells p') 128) : RefRep w' B (L.setP i p') ∧ ChgT B [128] w w' := by
  obtain ⟨a, b⟩ := (hp.below hb).put (h.below hb) hw
  exact ⟨a, (ChgT.of_below hb).trans b⟩

/-- Where an Inc, a Put or a Get goes from Look. -/
def lookPr (L : Lay) (v : Nat) (p : Pr) : Pr := { p with phase := if shutL p.node L.procs = true then 2 else if formH (L.hist v) = 1 then 3 else 12 }

set_option maxHeartbeats 4000000 in
set_option maxRecDepth 100000 in
theorem look_walk {w : World} {B : Nat} {L : Lay} (h : RefRep w B L) {i pb v : Nat} {p : Pr} (hp : ProcAt w L i pb p) (hv : p.node = (v : Int)) (hvl : v < L.past.length) (hk : p.kind < 3) :
    Calls Try.prog 82 #[.pointer (some ⟨L.tb, 0, none⟩), .pointer (some ⟨pb, 0, none⟩)] w fun e w' => e = .returned (.tuple #[]) ∧ RefRep w' B (L.setP i (lookPr L v p)) ∧ ChgT B [128] w w' := by
  have hs := shut_c h p.node
  have hf := form_c h v hvl
  have hc := changes_c ⟨p.kind, p.oval, p.onode⟩ w
  have hch : isChange ⟨p.kind, p.oval, p.onode⟩ = false := by
    unfold isChange
    have a1 : ¬ (p.kind = 3) := by omega
    have a2 : ¬ (p.kind = 4) := by omega
    simp [a1, a2]
  rw [hch] at hc
  unfold opV at hc
  obtain ⟨f1, f2⟩ := nb_facts hp.blk
  have c0 := f1 0
  have c1 := f1 1
  have c2 := f1 2
  have c3 := f1 3
  have c4 := f1 4
  simp only [prCells] at c0 c1 c2 c3 c4
  simp at c0 c1 c2 c3 c4
  rw [hv] at c4 hs
  have HF : Hid (∀ w1 : World, Below w.heap.size w w1 → (w1.cell? ⟨pb, 3, none⟩ = some (I p.phase) ∧ w1.frozen? ⟨pb, 3, none⟩ = false) ∧ ∀ x, RefRep (w1.setCell ⟨pb, 3, none⟩ (I x)) B (L.setP i { p with phase := x }) ∧ ChgT B [128] w (w1.setCell ⟨pb, 3, none⟩ (I x))) := by
    intro w1 hb
    have hp1 := hp.below hb
    obtain ⟨g1, g2⟩ := nb_facts hp1.blk
    refine ⟨⟨by rw [g1 3]; rfl, g2 3⟩, fun x => ?_⟩
    exact hp.wrote h hb ((PutB.refl hp1.blk).set 3 (I x))
  have HL : Hid (lookPr L v p = { p with phase := if shutL p.node L.procs = true then 2 else if formH (L.hist v) = 1 then 3 else 12 }) := rfl
  rw [hv] at HL HF
  generalize lookPr L v p = lp at *
  generalize shutL (v : Int) L.procs = sh at *
  generalize formH (L.hist v) = fo at *
  clear h hp f1 hv hch hk
  replace hc : Hid _ := hc
  cases sh
  · by_cases h1 : fo = 1
    · have hx := HL.out
      simp only [h1, if_true, Bool.false_eq_true, if_false] at hx
      subst h1
      clear HL
      go_enter Try.func82, Try.ntmps82
      go_wp2_with fail
      refine hs.mono ?_
      rintro e w1 ⟨rfl, rfl⟩
      clear hs
      go_wp2_with fail
      refine hf.mono ?_
      rintro e w2 ⟨rfl, rfl⟩
      clear hf
      go_wp2_with fail
      refine Calls.mono hc.out ?_
      rintro e w3 ⟨rfl, hb⟩
      obtain ⟨⟨z1, z2⟩, z3⟩ := HF.out w3 hb
      replace z3 : Hid _ := z3
      clear HF hb
      go_wp2
      go_end0
      rw [hx]
      exact ⟨rfl, z3.out _⟩
    · have hx := HL.out
      simp only [h1, Bool.false_eq_true, if_false] at hx
      have hd : (fo == 1) = false := by simpa using h1
      clear HL h1
      go_enter Try.func82, Try.ntmps82
      go_wp2_with fail
      refine hs.mono ?_
      rintro e w1 ⟨rfl, rfl⟩
      clear hs
      go_wp2_with fail
      refine hf.mono ?_
      rintro e w2 ⟨rfl, rfl⟩
      clear hf
      go_wp2_with fail
      refine Calls.mono hc.out ?_
      rintro e w3 ⟨rfl, hb⟩
      obtain ⟨⟨z1, z2⟩, z3⟩ := HF.out w3 hb
      replace z3 : Hid _ := z3
      clear HF hb
      go_wp2
      go_end0
      rw [hx]
      exact ⟨rfl, z3.out _⟩
  · have hx := HL.out
    simp only [if_true] at hx
    clear HL
    go_enter Try.func82, Try.ntmps82
    go_wp2_with fail
    refine hs.mono ?_
    rintro e w1 ⟨rfl, rfl⟩
    clear hs
    go_wp2_with fail
    refine hf.mono ?_
    rintro e w2 ⟨rfl, rfl⟩
    clear hf
    go_wp2_with fail
    refine Calls.mono hc.out ?_
    rintro e w3 ⟨rfl, hb⟩
    obtain ⟨⟨z1, z2⟩, z3⟩ := HF.out w3 hb
    replace z3 : Hid _ := z3
    clear HF hb
    go_wp2
    go_end0
    rw [hx]
    exact ⟨rfl, z3.out _⟩

end Go.Proofs.Ytjnmpejcegmkhaa
