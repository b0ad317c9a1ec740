/- Two processes that meet at the root of a new tree, of the document's tree alone. No statement of the seat is proved here. -/
import Derived.Test.YtjnmpejcegmkhaaInsPure
namespace Go.Proofs.Ytjnmpejcegmkhaa
open Go.RowKit

/-- A tree with two processes. -/
def two (K : Lay) (p q : Pr) : Lay := { K with procs := [(0, p), (0, q)] }
theorem two_hist (K : Lay) (p q : Pr) (u : Nat) : (two K p q).hist u = K.hist u := rfl

def plain (p : Pr) : Prop := p.phase ≠ 8 ∧ p.phase ≠ 9 ∧ p.phase ≠ 10 ∧ p.phase ≠ 11 ∧ p.phase ≠ 12 ∧ p.phase ≠ 13 ∧ p.phase ≠ 14 ∧ p.phase ≠ 17

theorem two_move0 (K : Lay) (p q : Pr) (d : Int) (h : plain p) : lstep (two K p q) 0 d = two K (lmove (two K (incPr p) q) p.node.toNat (incPr p) d) q := by
  obtain ⟨h1, h2, h3, h4, h5, h6, h7, h8⟩ := h
  unfold lstep
  simp only [two, List.getElem?_cons_zero, h1, h2, h3, h4, h5, h6, h7, h8, if_false]
  rfl
theorem two_move1 (K : Lay) (p q : Pr) (d : Int) (h : plain q) : lstep (two K p q) 1 d = two K p (lmove (two K p (incPr q)) q.node.toNat (incPr q) d) := by
  obtain ⟨h1, h2, h3, h4, h5, h6, h7, h8⟩ := h
  unfold lstep
  simp only [two, List.getElem?_cons_succ, List.getElem?_cons_zero, h1, h2, h3, h4, h5, h6, h7, h8, if_false]
  rfl
theorem two_meet (K : Lay) (p q : Pr) (d : Int) (h8 : q.phase = 8) (hm : q.mind = 0) (hy : meets (two K p (incPr q)) (incPr q) p = true) : lstep (two K p q) 1 d = two K { p with met := 1 } (settledPr (incPr q) p 1) := by
  unfold lstep
  simp only [two, List.getElem?_cons_succ, List.getElem?_cons_zero]
  rw [if_pos h8]
  have e : (incPr q).mind.toNat = 0 := by show q.mind.toNat = 0; rw [hm]; rfl
  rw [e]
  simp only [List.getElem?_cons_zero]
  exact (if_pos hy).trans rfl

theorem noSh (K : Lay) (p q : Pr) (hp : p.phase < 16) (hq : q.phase < 16) (v : Int) : shutL v (two K p q).procs = false := by
  have a : ¬ p.phase = 16 ∧ ¬ p.phase = 17 ∧ ¬ p.phase = 18 := by omega
  have b : ¬ q.phase = 16 ∧ ¬ q.phase = 17 ∧ ¬ q.phase = 18 := by omega
  simp [two, shutL, shutP, a, b]
theorem noWt (K : Lay) (p q : Pr) (hp : p.phase < 6) (hq : q.phase < 6) (v k : Int) : waitsL v k (two K p q).procs 0 = -1 := by
  have a : ¬ p.phase = 6 ∧ ¬ p.phase = 7 := by omega
  have b : ¬ q.phase = 6 ∧ ¬ q.phase = 7 := by omega
  simp [two, waitsL, waitP, a, b]
theorem waits0 (K : Lay) (p q : Pr) (v k : Int) (h1 : p.node = v) (h2 : p.slot = k) (h3 : p.phase = 6) : waitsL v k (two K p q).procs 0 = 0 := by
  simp [two, waitsL, waitP, h1, h2, h3]

/- Process 0, from its beginning to Wait. -/
structure FreshP (p : Pr) : Prop where
  phase : p.phase = 0
  node : p.node = 1
  val : p.val = 0
  kind : p.kind < 3

def pw1 (p : Pr) : Pr := { incPr p with phase := 1 }
def pw2 (p : Pr) : Pr := { incPr (pw1 p) with phase := 3 }
def pw3 (W d : Int) (p : Pr) : Pr := { incPr (pw2 p) with wide := W, slot := d % W, phase := 4 }
def pw4 (W d : Int) (p : Pr) : Pr := { incPr (pw3 W d p) with phase := 5 }
def pw5 (W d s : Int) (p : Pr) : Pr := { incPr (pw4 W d p) with phase := 6, met := -1, pat := s }

theorem two_w1 (K : Lay) (p q : Pr) (d : Int) (h : FreshP p) : lstep (two K p q) 0 d = two K (pw1 p) q := by
  have a := h.phase
  rw [two_move0 K p q d ⟨by omega, by omega, by omega, by omega, by omega, by omega, by omega, by omega⟩]
  unfold lmove
  rw [if_pos (show (incPr p).phase = 0 from a)]
  rfl
theorem two_w2 (K : Lay) (p q : Pr) (d : Int) (h : FreshP p) (hq : q.phase < 16) (hf : formH (K.hist 1) = 1) : lstep (two K (pw1 p) q) 0 d = two K (pw2 p) q := by
  have e : (pw1 p).phase = 1 := rfl
  rw [two_move0 K (pw1 p) q d ⟨by omega, by omega, by omega, by omega, by omega, by omega, by omega, by omega⟩]
  have en : (pw1 p).node.toNat = 1 := by show p.node.toNat = 1; rw [h.node]; rfl
  unfold lmove
  rw [if_neg (show ¬ (incPr (pw1 p)).phase = 0 by show ¬ (1 : Int) = 0; omega), if_pos (show (incPr (pw1 p)).phase = 1 from rfl), en, noSh K _ q (show (1 : Int) < 16 by omega) hq, if_neg (by simp), if_pos (show (incPr (pw1 p)).kind < 3 from h.kind), two_hist, if_pos hf]
  rfl
theorem two_w3 (K : Lay) (p q : Pr) (d : Int) (h : FreshP p) : lstep (two K (pw2 p) q) 0 d = two K (pw3 (widthH (K.hist 1)) d p) q := by
  have e : (pw2 p).phase = 3 := rfl
  rw [two_move0 K (pw2 p) q d ⟨by omega, by omega, by omega, by omega, by omega, by omega, by omega, by omega⟩]
  have en : (pw2 p).node.toNat = 1 := by show p.node.toNat = 1; rw [h.node]; rfl
  unfold lmove
  have e3 : (incPr (pw2 p)).phase = 3 := rfl
  rw [if_neg (by omega), if_neg (by omega), if_neg (by omega), if_pos e3, en, two_hist]
  rfl
theorem two_w4 (K : Lay) (p q : Pr) (W d : Int) (hq : q.phase < 6) : lstep (two K (pw3 W d p) q) 0 d = two K (pw4 W d p) q := by
  have e : (pw3 W d p).phase = 4 := rfl
  rw [two_move0 K (pw3 W d p) q d ⟨by omega, by omega, by omega, by omega, by omega, by omega, by omega, by omega⟩]
  unfold lmove
  have e3 : (incPr (pw3 W d p)).phase = 4 := rfl
  rw [if_neg (by omega), if_neg (by omega), if_neg (by omega), if_neg (by omega), if_pos e3, noWt K _ q (by omega) hq, if_pos (by omega)]
  rfl
theorem two_w5 (K : Lay) (p q : Pr) (W d : Int) (hq : q.phase < 6) : lstep (two K (pw4 W d p) q) 0 d = two K (pw5 W d K.c.spin p) q := by
  have e : (pw4 W d p).phase = 5 := rfl
  rw [two_move0 K (pw4 W d p) q d ⟨by omega, by omega, by omega, by omega, by omega, by omega, by omega, by omega⟩]
  unfold lmove
  have e3 : (incPr (pw4 W d p)).phase = 5 := rfl
  rw [if_neg (by omega), if_neg (by omega), if_neg (by omega), if_neg (by omega), if_neg (by omega), if_pos e3, noWt K _ q (by omega) hq, if_pos (by omega)]
  rfl

/- Process 1, from its beginning to Meet. -/
def m4 (W d : Int) (p : Pr) : Pr := { incPr (pw3 W d p) with mind := 0, phase := 8 }
theorem two_v1 (K : Lay) (p q : Pr) (d : Int) (h : FreshP q) : lstep (two K p q) 1 d = two K p (pw1 q) := by
  have a := h.phase
  rw [two_move1 K p q d ⟨by omega, by omega, by omega, by omega, by omega, by omega, by omega, by omega⟩]
  unfold lmove
  rw [if_pos (show (incPr q).phase = 0 from a)]
  rfl
theorem two_v2 (K : Lay) (p q : Pr) (d : Int) (h : FreshP q) (hp : p.phase < 16) (hf : formH (K.hist 1) = 1) : lstep (two K p (pw1 q)) 1 d = two K p (pw2 q) := by
  have e : (pw1 q).phase = 1 := rfl
  rw [two_move1 K p (pw1 q) d ⟨by omega, by omega, by omega, by omega, by omega, by omega, by omega, by omega⟩]
  have en : (pw1 q).node.toNat = 1 := by show q.node.toNat = 1; rw [h.node]; rfl
  unfold lmove
  rw [if_neg (show ¬ (incPr (pw1 q)).phase = 0 by show ¬ (1 : Int) = 0; omega), if_pos (show (incPr (pw1 q)).phase = 1 from rfl), en, noSh K p _ hp (show (1 : Int) < 16 by omega), if_neg (by simp), if_pos (show (incPr (pw1 q)).kind < 3 from h.kind), two_hist, if_pos hf]
  rfl
theorem two_v3 (K : Lay) (p q : Pr) (d : Int) (h : FreshP q) : lstep (two K p (pw2 q)) 1 d = two K p (pw3 (widthH (K.hist 1)) d q) := by
  have e : (pw2 q).phase = 3 := rfl
  rw [two_move1 K p (pw2 q) d ⟨by omega, by omega, by omega, by omega, by omega, by omega, by omega, by omega⟩]
  have en : (pw2 q).node.toNat = 1 := by show q.node.toNat = 1; rw [h.node]; rfl
  unfold lmove
  have e3 : (incPr (pw2 q)).phase = 3 := rfl
  rw [if_neg (by omega), if_neg (by omega), if_neg (by omega), if_pos e3, en, two_hist]
  rfl
theorem two_v4 (K : Lay) (p q : Pr) (W d s : Int) (hp : FreshP p) (h : FreshP q) : lstep (two K (pw5 W d s p) (pw3 W d q)) 1 d = two K (pw5 W d s p) (m4 W d q) := by
  have e : (pw3 W d q).phase = 4 := rfl
  rw [two_move1 K (pw5 W d s p) (pw3 W d q) d ⟨by omega, by omega, by omega, by omega, by omega, by omega, by omega, by omega⟩]
  have en : (pw3 W d q).node.toNat = 1 := by show q.node.toNat = 1; rw [h.node]; rfl
  unfold lmove
  have e3 : (incPr (pw3 W d q)).phase = 4 := rfl
  have e4 : (incPr (pw3 W d q)).slot = d % W := rfl
  have hw := waits0 K (pw5 W d s p) (incPr (pw3 W d q)) 1 (d % W) (by show p.node = 1; exact hp.node) rfl rfl
  rw [if_neg (by omega), if_neg (by omega), if_neg (by omega), if_neg (by omega), if_pos e3, en, e4]
  show two K (pw5 W d s p) (if waitsL (1 : Int) (d % W) (two K (pw5 W d s p) (incPr (pw3 W d q))).procs 0 < 0 then _ else match (two K (pw5 W d s p) (incPr (pw3 W d q))).procs[(waitsL (1 : Int) (d % W) (two K (pw5 W d s p) (incPr (pw3 W d q))).procs 0).toNat]? with | some y => _ | none => _) = _
  rw [hw, if_neg (by omega)]
  have hg : (two K (pw5 W d s p) (incPr (pw3 W d q))).procs[(0 : Int).toNat]? = some (0, pw5 W d s p) := rfl
  rw [hg]
  simp only
  have hw1 : waitsL ((1 : Nat) : Int) (d % W) (two K (pw5 W d s p) (incPr (pw3 W d q))).procs 0 = 0 := hw
  rw [if_neg (show ¬ 0 ≤ (pw5 W d s p).met by show ¬ (0 : Int) ≤ -1; omega), hw1]
  rfl
theorem two_v5 (K : Lay) (p q : Pr) (W d s : Int) (hp : FreshP p) (h : FreshP q) : lstep (two K (pw5 W d s p) (m4 W d q)) 1 d = two K { pw5 W d s p with met := 1 } (settledPr (incPr (m4 W d q)) (pw5 W d s p) 1) := by
  refine two_meet K (pw5 W d s p) (m4 W d q) d rfl rfl ?_
  unfold meets
  have e1 : (incPr (m4 W d q)).node = 1 := h.node
  have e2 : (incPr (m4 W d q)).slot = d % W := rfl
  have e3 : (incPr (m4 W d q)).mind = 0 := rfl
  rw [e1, e2, e3, waits0 K (pw5 W d s p) _ 1 (d % W) hp.node rfl rfl]
  rfl

/- Process 0 finds that it was met, and parts. -/
def pw6 (W d s : Int) (p : Pr) : Pr := { incPr { pw5 W d s p with met := 1 } with phase := 7 }
theorem two_w6 (K : Lay) (p q' : Pr) (W d s : Int) : lstep (two K { pw5 W d s p with met := 1 } q') 0 d = two K (pw6 W d s p) q' := by
  have e : ({ pw5 W d s p with met := 1 } : Pr).phase = 6 := rfl
  rw [two_move0 K _ q' d ⟨by omega, by omega, by omega, by omega, by omega, by omega, by omega, by omega⟩]
  unfold lmove
  have e3 : (incPr { pw5 W d s p with met := 1 }).phase = 6 := rfl
  rw [if_neg (by omega), if_neg (by omega), if_neg (by omega), if_neg (by omega), if_neg (by omega), if_neg (by omega), if_pos e3]
  unfold waitPr
  rw [if_pos (show (0 : Int) ≤ 1 by omega)]
  rfl
theorem two_w7 (K : Lay) (p q' : Pr) (W d s : Int) : lstep (two K (pw6 W d s p) q') 0 d = two K (settledPr { incPr (pw6 W d s p) with met := -1 } q' 0) q' := by
  have e : (pw6 W d s p).phase = 7 := rfl
  rw [two_move0 K _ q' d ⟨by omega, by omega, by omega, by omega, by omega, by omega, by omega, by omega⟩]
  unfold lmove
  have e3 : (incPr (pw6 W d s p)).phase = 7 := rfl
  rw [if_neg (by omega), if_neg (by omega), if_neg (by omega), if_neg (by omega), if_neg (by omega), if_neg (by omega), if_neg (by omega), if_pos e3]
  rfl

/-- How the two end. -/
structure Parted (x y : Pr) (ka kb val : Int) : Prop where
  same : ka = kb → x.phase = 0 ∧ x.node = 2 ∧ y.phase = 0 ∧ y.node = 3
  out : ka ≠ kb → x.phase = 19 ∧ y.phase = 19 ∧ x.node = 1 ∧ y.node = 1 ∧ (ka = 2 → x.val = val ∧ y.val = 0) ∧ (ka ≠ 2 → x.val = 0 ∧ y.val = val)

theorem parted (p q : Pr) (W d s : Int) (hp : FreshP p) (hq : FreshP q) (val : Int) (hpv : p.oval = val) (hqv : q.oval = val) (hk : p.kind ≠ q.kind → (p.kind = 1 ∧ q.kind = 2) ∨ (p.kind = 2 ∧ q.kind = 1)) :
    Parted (settledPr { incPr (pw6 W d s p) with met := -1 } (settledPr (incPr (m4 W d q)) (pw5 W d s p) 1) 0) (settledPr (incPr (m4 W d q)) (pw5 W d s p) 1) p.kind q.kind val := by
  have k1 : (incPr (m4 W d q)).kind = q.kind := rfl
  have k2 : (pw5 W d s p).kind = p.kind := rfl
  have k3 : ({ incPr (pw6 W d s p) with met := -1 } : Pr).kind = p.kind := rfl
  have ky : (settledPr (incPr (m4 W d q)) (pw5 W d s p) 1).kind = q.kind ∧ (settledPr (incPr (m4 W d q)) (pw5 W d s p) 1).oval = q.oval := by
    unfold settledPr
    split
    · exact ⟨rfl, rfl⟩
    · split
      · exact ⟨rfl, rfl⟩
      · exact ⟨rfl, rfl⟩
  have n1 : ({ incPr (pw6 W d s p) with met := -1 } : Pr).node = 1 := hp.node
  have n2 : (incPr (m4 W d q)).node = 1 := hq.node
  have v1 : ({ incPr (pw6 W d s p) with met := -1 } : Pr).val = 0 := hp.val
  have v2 : (incPr (m4 W d q)).val = 0 := hq.val
  have o1 : (pw5 W d s p).oval = val := hpv
  generalize ({ incPr (pw6 W d s p) with met := -1 } : Pr) = x at *
  generalize (incPr (m4 W d q)) = y at *
  generalize pw5 W d s p = z at *
  have hy : settledPr y z 1 = if q.kind = p.kind then { y with node := 2 * y.node + 1, phase := 0 } else if q.kind = 2 then { y with val := z.oval, phase := 19 } else { y with phase := 19 } := by
    unfold settledPr
    rw [k1, k2]
  generalize settledPr y z 1 = y' at *
  have hx : settledPr x y' 0 = if p.kind = q.kind then { x with node := 2 * x.node + 0, phase := 0 } else if p.kind = 2 then { x with val := y'.oval, phase := 19 } else { x with phase := 19 } := by
    unfold settledPr
    rw [k3, ky.1]
  rw [hx]
  constructor
  · intro e
    rw [if_pos e]
    rw [if_pos e.symm] at hy
    rw [hy]
    exact ⟨rfl, by show 2 * x.node + 0 = 2; omega, rfl, by show 2 * y.node + 1 = 3; omega⟩
  · intro e
    rw [if_neg e]
    rw [if_neg (Ne.symm e)] at hy
    rcases hk e with ⟨a, b⟩ | ⟨a, b⟩
    · rw [if_neg (by omega)]
      rw [if_pos b] at hy
      rw [hy]
      exact ⟨rfl, rfl, n1, n2, fun z => by omega, fun _ => ⟨v1, o1⟩⟩
    · rw [if_pos a]
      rw [if_neg (by omega)] at hy
      have ho := ky.2
      rw [hy] at ho ⊢
      exact ⟨rfl, rfl, n1, n2, fun _ => ⟨by show y.oval = val; rw [← hqv]; exact ho, v2⟩, fun z => absurd a z⟩

/-- Who parted at the root is counted at no other node. -/
theorem parted_same (K : Lay) (x y : Pr) (hx : (x.phase = 0 ∧ x.node = 2) ∨ (x.phase = 19 ∧ x.node = 1)) (hy : (y.phase = 0 ∧ y.node = 3) ∨ (y.phase = 19 ∧ y.node = 1)) (hK : K.procs = []) (u : Nat) (h1 : 1 ≤ u) (hu : u ≠ 1) : (two K x y).hist u = K.hist u ∧ rnode (two K x y) u = rnode K u := by
  have hold : ∀ z : Pr, ((z.phase = 0 ∧ (z.node = 2 ∨ z.node = 3)) ∨ (z.phase = 19 ∧ z.node = 1)) → holdsP u z = false ∧ (∀ v, shutP v z = false) ∧ ∀ v k, waitP v k z = false := by
    intro z hz
    have ha : atP z = 1 := by
      unfold atP
      rcases hz with ⟨a, b⟩ | ⟨a, b⟩
      · rw [if_pos (Or.inl a)]
        omega
      · rw [if_neg (by omega)]
        omega
    refine ⟨?_, fun v => ?_, fun v k => ?_⟩
    · unfold holdsP
      rw [ha, climb_stop 6 1 u (by omega)]
      simp
      omega
    · have : ¬ z.phase = 16 ∧ ¬ z.phase = 17 ∧ ¬ z.phase = 18 := by omega
      simp [shutP, this]
    · have : ¬ z.phase = 6 ∧ ¬ z.phase = 7 := by omega
      simp [waitP, this]
  obtain ⟨a1, a2, a3⟩ := hold x (by omega)
  obtain ⟨b1, b2, b3⟩ := hold y (by omega)
  refine ⟨rfl, rnode_alike u rfl rfl ?_ ?_ fun k => ?_⟩
  · rw [hK]; simp [two, insideL, a1, b1]
  · rw [hK]; simp [two, shutL, a2, b2]
  · rw [hK]; simp [two, waitsL, a3, b3]

end Go.Proofs.Ytjnmpejcegmkhaa
