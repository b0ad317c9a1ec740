/- The contract of package prismref's New. No statement of the seat is proved here. -/
import Derived.Test.YtjnmpejcegmkhaaRef8
import Derived.Test.YtjnmpejcegmkhaaRef9
namespace Go.Proofs.Ytjnmpejcegmkhaa
open Go.RowKit

/-- What has happened at node u of a new tree. -/
def newHist (start : Int) (u : Nat) : Hist :=
  if ((Nat.log2 u : Nat) : Int) < start then [(⟨1, 0, 0, []⟩, .slice none 0 0)]
  else if ((Nat.log2 u : Nat) : Int) = start then [(⟨2, 0, 0, []⟩, .slice none 0 0)] else []

structure NewLay (c : Conf) (L : Lay) : Prop where
  conf : L.c = c
  procs : L.procs = []
  len : L.past.length = 2 ^ (c.depth.toNat + 1)
  hist : ∀ u, 1 ≤ u → u < L.past.length → L.hist u = newHist c.start u
  hist0 : L.hist 0 = []

/-- On the way: the nodes below k have become what they are. -/
structure NewMid (c : Conf) (n k tb : Nat) (L : Lay) : Prop where
  tb : L.tb = tb
  conf : L.c = c
  procs : L.procs = []
  len : L.past.length = n
  hist : ∀ u, 1 ≤ u → u < k → L.hist u = newHist c.start u
  rest : ∀ u, (u = 0 ∨ k ≤ u) → L.hist u = []

theorem NewMid.step {c : Conf} {n k tb : Nat} {L : Lay} (h : NewMid c n k tb L) (hk : 1 ≤ k) (hkn : k < n) (x : Value) (l : Hist) (hl : l = newHist c.start k) : NewMid c n (k + 1) tb { L with past := L.past.set k (x, l) } where
  tb := h.tb
  conf := h.conf
  procs := h.procs
  len := by simpa using h.len
  hist := fun u hu1 hu2 => by
    rw [lay_hist_set _ _ _ _ _ (by rw [h.len]; exact hkn)]
    split
    · next e => rw [hl, e]
    · exact h.hist u hu1 (by omega)
  rest := fun u hu => by
    rw [lay_hist_set _ _ _ _ _ (by rw [h.len]; exact hkn), if_neg (by omega)]
    exact h.rest u (by omega)

theorem NewMid.skip {c : Conf} {n k tb : Nat} {L : Lay} (h : NewMid c n k tb L) (hl : newHist c.start k = []) : NewMid c n (k + 1) tb L :=
  ⟨h.tb, h.conf, h.procs, h.len, fun u h1 h2 => by
    by_cases e : u = k
    · rw [e, hl]; exact h.rest k (by omega)
    · exact h.hist u h1 (by omega), fun u hu => h.rest u (by omega)⟩

theorem mk_slice (n : Nat) (hn : n = 2 ∨ n = 4 ∨ n = 8 ∨ n = 16 ∨ n = 32) (w : World) :
    (Instr.makeSlice 108 (.int .i64 (n : Int)) (.int .i64 (n : Int))).run Try.prog w = .ok (.slice (some ⟨w.heap.size, 0, none⟩) n n) (w.alloc (.cells (Array.replicate n (.slice none 0 0)) 136)) := by
  rcases hn with rfl | rfl | rfl | rfl | rfl <;> kernel_rfl

theorem new_row (w : World) (B n : Nat) (hn : n ≤ maxLen) (hB : B ≤ w.heap.size) (o : Obj) : ((w.alloc (.cells (Array.replicate n (.slice none 0 0)) 136)).alloc o).ownsRow B 136 1 (.slice (some ⟨w.heap.size, 0, none⟩) n n) n (List.replicate n (.slice none 0 0)) := by
  refine World.ownsRow.alloc ⟨by simp, Or.inr ⟨w.heap.size, n, Array.replicate n (.slice none 0 0), rfl, hB, nb_alloc _ _ _, Nat.le_refl _, hn, by simp, by simp⟩⟩ o

set_option maxHeartbeats 4000000 in
theorem rnew_no (c : Conf) (w : World) (h : mayC c = false) : Calls Try.prog 55 #[confV c] w fun e w' => e = .returned (.pointer none) ∧ Below w.heap.size w w' := by
  have hm := may_c c (w.alloc (.cells #[I c.kind, I c.depth, I c.start, I c.slots, I c.width, I c.spin, I c.drain, I c.procs] 23))
  rw [h] at hm
  unfold confV at hm ⊢
  clear h
  go_enter Try.func55, Try.ntmps55
  go_wp2_with fail
  refine hm.mono ?_
  rintro e w1 ⟨rfl, hb1⟩
  go_wp2_with fail
  go_ret
  exact ⟨rfl, ((Below.refl _ _).alloc (Nat.le_refl _) _).trans (hb1.mono (by simp))⟩

set_option maxHeartbeats 4000000 in
theorem rnew_yes (c : Conf) (w : World) (h : mayC c = true) : Calls Try.prog 55 #[confV c] w fun e w' => ∃ L, e = .returned (.pointer (some ⟨L.tb, 0, none⟩)) ∧ RefRep w' w.heap.size L ∧ NewLay c L ∧ Below w.heap.size w w' := by
  have hm := may_c c (w.alloc (.cells #[I c.kind, I c.depth, I c.start, I c.slots, I c.width, I c.spin, I c.drain, I c.procs] 23))
  rw [h] at hm
  have hc : 0 ≤ c.depth ∧ c.depth ≤ 4 := by simp [mayC] at h; omega
  obtain ⟨d, hd⟩ := Int.eq_ofNat_of_zero_le hc.1
  have hd4 : d ≤ 4 := by omega
  obtain ⟨n, hn⟩ : ∃ n : Nat, n = 2 ^ (d + 1) := ⟨_, rfl⟩
  have hs := sh_small d (by omega)
  rw [← hn] at hs
  have hn5 : n = 2 ∨ n = 4 ∨ n = 8 ∨ n = 16 ∨ n = 32 := by
    have : d = 0 ∨ d = 1 ∨ d = 2 ∨ d = 3 ∨ d = 4 := by omega
    rcases this with rfl | rfl | rfl | rfl | rfl <;> simp_all
  have hmk := mk_slice n hn5
  have hlt : n ≤ 32 := by omega
  have HN : Hid (n = 2 ^ (c.depth.toNat + 1)) := by show n = _; rw [hd]; simpa using hn
  unfold confV at hm ⊢
  clear h hc hn hn5
  obtain ⟨kind, depth, start, slots, width, spin, drain, procs⟩ := c
  simp only at *
  subst hd
  go_enter Try.func55, Try.ntmps55
  go_wp2_with fail
  refine hm.mono ?_
  rintro e w1 ⟨rfl, hb1⟩
  have nb1 : w1.heap[w.heap.size]? = some (.cells #[I kind, I d, I start, I slots, I width, I spin, I drain, I procs] 23 (0, 0)) := (hb1.block _ (by simp)).trans (nb_alloc _ _ _)
  have hb2 : Below w.heap.size w w1 := ((Below.refl _ _).alloc (Nat.le_refl _) _).trans (hb1.mono (by simp))
  have ls : w.heap.size < w1.heap.size := (Array.getElem?_eq_some_iff.1 nb1).1
  clear hb1 hm
  obtain ⟨f1, _⟩ := nb_facts nb1
  go_wp2_with fail
  go_region
  have hrep0 : RefRep (((w1.alloc (.cells (Array.replicate n (.slice none 0 0)) 136)).alloc (.cells #[I kind, I d, I start, I slots, I width, I spin, I drain, I procs, .slice none 0 0, .slice (some ⟨w1.heap.size, 0, none⟩) n n] 110)).drew) w.heap.size
      ⟨w1.heap.size + 1, ⟨kind, d, start, slots, width, spin, drain, procs⟩, .slice none 0 0, [], .slice (some ⟨w1.heap.size, 0, none⟩) n n, List.replicate n (.slice none 0 0, [])⟩ := by
    constructor
    · have := nb_alloc (w1.alloc (.cells (Array.replicate n (.slice none 0 0)) 136)) #[I kind, I d, I start, I slots, I width, I spin, I drain, I procs, .slice none 0 0, .slice (some ⟨w1.heap.size, 0, none⟩) n n] 110
      have e : (w1.alloc (.cells (Array.replicate n (.slice none 0 0)) 136)).heap.size = w1.heap.size + 1 := by simp
      rw [e] at this
      exact this
    · show w.heap.size ≤ w1.heap.size + 1; omega
    · exact World.ownsRow_nil _ _ _ _
    · intro i hi; simp at hi
    · intro i j hi; simp at hi
    · have := new_row w1 w.heap.size n (by unfold maxLen; omega) (by omega) (.cells #[I kind, I d, I start, I slots, I width, I spin, I drain, I procs, .slice none 0 0, .slice (some ⟨w1.heap.size, 0, none⟩) n n] 110)
      simpa using this.drew
    · intro i hi
      simp only [List.getElem_replicate]
      exact World.ownsRow_nil _ _ _ _
    · intro i hi y hy
      simp at hy
    · intro i j hi hj g hg
      simp [Value.ownBlock] at hg
  have hmid0 : NewMid ⟨kind, d, start, slots, width, spin, drain, procs⟩ n 1 (w1.heap.size + 1)
      ⟨w1.heap.size + 1, ⟨kind, d, start, slots, width, spin, drain, procs⟩, .slice none 0 0, [], .slice (some ⟨w1.heap.size, 0, none⟩) n n, List.replicate n (.slice none 0 0, [])⟩ := by
    refine ⟨rfl, rfl, rfl, by simp, fun u h1 h2 => by omega, fun u _ => ?_⟩
    simp only [Lay.hist, List.getD_eq_getElem?_getD, List.getElem?_replicate]
    split <;> rfl
  have hb3 : Below w.heap.size w (((w1.alloc (.cells (Array.replicate n (.slice none 0 0)) 136)).alloc (.cells #[I kind, I d, I start, I slots, I width, I spin, I drain, I procs, .slice none 0 0, .slice (some ⟨w1.heap.size, 0, none⟩) n n] 110)).drew) :=
    ((hb2.alloc hb2.size _).alloc (by simp; omega) _).drew
  have nb2 : (((w1.alloc (.cells (Array.replicate n (.slice none 0 0)) 136)).alloc (.cells #[I kind, I d, I start, I slots, I width, I spin, I drain, I procs, .slice none 0 0, .slice (some ⟨w1.heap.size, 0, none⟩) n n] 110)).drew).heap[w.heap.size]? = some (.cells #[I kind, I d, I start, I slots, I width, I spin, I drain, I procs] 23 (0, 0)) := by
    show ((w1.alloc _).alloc _).heap[w.heap.size]? = _
    rw [Below.heap_alloc _ _ _ (by simp; omega), Below.heap_alloc _ _ _ ls]
    exact nb1
  rw [hs]
  clear f1 nb1 hb2 hmk hs
  generalize ((w1.alloc (.cells (Array.replicate n (.slice none 0 0)) 136)).alloc (.cells #[I kind, I d, I start, I slots, I width, I spin, I drain, I procs, .slice none 0 0, .slice (some ⟨w1.heap.size, 0, none⟩) n n] 110)).drew = w2 at *
  generalize (⟨w1.heap.size + 1, ⟨kind, d, start, slots, width, spin, drain, procs⟩, .slice none 0 0, [], .slice (some ⟨w1.heap.size, 0, none⟩) n n, List.replicate n (.slice none 0 0, [])⟩ : Lay) = L0 at *
  generalize w1.heap.size + 1 = tb at *
  have hn1 : 1 ≤ n := by have := HN.out; have := Nat.two_pow_pos (Int.toNat (d : Int) + 1); omega
  go_wp2_with fail
  go_loopw [5, 6] (fun i _ wr => ∃ (k : Nat) (L : Lay), 1 ≤ k ∧ k ≤ n ∧ i = .int .i64 k ∧ RefRep wr w.heap.size L ∧ NewMid ⟨kind, d, start, slots, width, spin, drain, procs⟩ n k tb L ∧ Below w.heap.size w wr ∧ wr.heap[w.heap.size]? = some (.cells #[I kind, I d, I start, I slots, I width, I spin, I drain, I procs] 23 (0, 0))) (fun i _ _ => n - (intOf i).toNat)
  case atStart => exact ⟨1, L0, by omega, hn1, rfl, hrep0, hmid0, hb3, nb2⟩
  case round =>
    obtain ⟨k, L, hk1, hk, rfl, hrep, hmid, hbr, hcb⟩ := hrel
    have h9 := hrep.hv_cell
    obtain ⟨ao, cap, e1, q1, q2, q3, hx⟩ := ownsRow_cells hrep.hrow
    rw [e1, hmid.tb, hmid.len] at h9
    clear e1 hx q1 q2
    unfold maxLen at q3
    obtain ⟨f1, _⟩ := nb_facts hcb
    have hsz := hbr.size
    by_cases hkn : k < n
    · have HC : Hid (∀ ev : Ev, ev.items = [] → Calls Try.prog 79 #[.pointer (some ⟨tb, 0, none⟩), I k, .agg #[I ev.what, I ev.n, I ev.v, .slice none 0 0]] wr fun e w' => e = .returned (.tuple #[]) ∧ (∃ x, RefRep w' w.heap.size { L with past := L.past.set k (x, [(ev, .slice none 0 0)]) }) ∧ ChgT w.heap.size [136, 125] wr w') := by
        intro ev hev
        have := happens_c hrep hsz k (by rw [hmid.len]; exact hkn) (by rw [hmid.rest k (Or.inr (Nat.le_refl _))]; simp) ev (.slice none 0 0) (by rw [hev]; exact World.ownsRow_nil _ _ _ _)
        rw [hmid.rest k (Or.inr (Nat.le_refl _))] at this
        rw [← hmid.tb]
        exact this
      have hdp := depth_c k (by omega) wr
      by_cases c1 : ((Nat.log2 k : Nat) : Int) < start
      · have hnh : newHist start k = [(⟨1, 0, 0, []⟩, .slice none 0 0)] := by simp [newHist, c1]
        have b2 : (((Nat.log2 k : Nat) : Int) == start) = false := by simp; omega
        have HNH : Hid (newHist start k = [(⟨1, 0, 0, []⟩, .slice none 0 0)]) := hnh
        clear hnh
        go_wp2_with fail
        refine hdp.mono ?_
        rintro e w3 ⟨rfl, rfl⟩
        clear hdp
        go_wp2_with fail
        refine (HC.out ⟨1, 0, 0, []⟩ rfl).mono ?_
        rintro e w4 ⟨rfl, ⟨x, hrep2⟩, hch⟩
        have hcb2 := hch.at hcb (by decide)
        have hbr2 := hbr.trans (hch.below hsz)
        have hmid2 := hmid.step hk1 hkn x _ HNH.out.symm
        clear f1 hcb hch hrep hmid hbr h9
        obtain ⟨f1, _⟩ := nb_facts hcb2
        go_wp2
        go_roundw
        case rel => exact ⟨k + 1, _, by omega, by omega, by go_num, hrep2, hmid2, hbr2, hcb2⟩
        case measure => simp [intOf]; omega
      · by_cases c2 : ((Nat.log2 k : Nat) : Int) = start
        · have hnh : newHist start k = [(⟨2, 0, 0, []⟩, .slice none 0 0)] := by simp [newHist, c2]
          have b1 : decide (((Nat.log2 k : Nat) : Int) < start) = false := by simpa using c1
          have b2 : (((Nat.log2 k : Nat) : Int) == start) = true := by simpa using c2
          have HNH : Hid (newHist start k = [(⟨2, 0, 0, []⟩, .slice none 0 0)]) := hnh
          clear hnh c2
          go_wp2_with fail
          refine hdp.mono ?_
          rintro e w3 ⟨rfl, rfl⟩
          clear hdp
          go_wp2_with fail
          refine (HC.out ⟨2, 0, 0, []⟩ rfl).mono ?_
          rintro e w4 ⟨rfl, ⟨x, hrep2⟩, hch⟩
          have hcb2 := hch.at hcb (by decide)
          have hbr2 := hbr.trans (hch.below hsz)
          have hmid2 := hmid.step hk1 hkn x _ HNH.out.symm
          clear f1 hcb hch hrep hmid hbr h9
          go_wp2
          go_roundw
          case rel => exact ⟨k + 1, _, by omega, by omega, by go_num, hrep2, hmid2, hbr2, hcb2⟩
          case measure => simp [intOf]; omega
        · have hnh : newHist start k = [] := by simp [newHist, c1, c2]
          have b1 : decide (((Nat.log2 k : Nat) : Int) < start) = false := by simpa using c1
          have b2 : (((Nat.log2 k : Nat) : Int) == start) = false := by simpa using c2
          have hmid2 := hmid.skip hnh
          clear hnh c2 HC
          go_wp2_with fail
          refine hdp.mono ?_
          rintro e w3 ⟨rfl, rfl⟩
          clear hdp
          go_wp2
          go_roundw
          case rel => exact ⟨k + 1, L, by omega, by omega, by go_num, hrep, hmid2, hbr, hcb⟩
          case measure => simp [intOf]; omega
    · have e : k = n := by omega
      subst e
      go_wp2
      go_ret
      exact ⟨L, by rw [hmid.tb]; rfl, hrep, ⟨hmid.conf, hmid.procs, by rw [hmid.len]; exact HN.out, fun u h1 h2 => hmid.hist u h1 (by rw [hmid.len] at h2; exact h2), hmid.rest 0 (Or.inl rfl)⟩, hbr⟩

end Go.Proofs.Ytjnmpejcegmkhaa
