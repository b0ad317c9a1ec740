/- The walk of the statement Meets: for every configuration and all numbers the call answers true, and what was there is as it was. -/
import Derived.Test.YtjnmpejcegmkhaaMeet1
import Derived.Test.YtjnmpejcegmkhaaI2
namespace Go.Proofs.Ytjnmpejcegmkhaa
open Go.RowKit

theorem two_blocks (w : World) (a b : Array Value) (T : TypeId) : ((w.alloc (.cells a T)).alloc (.cells b T)).heap[w.heap.size]? = some (.cells a T (0, 0)) ∧ ((w.alloc (.cells a T)).alloc (.cells b T)).heap[w.heap.size + 1]? = some (.cells b T (0, 0)) ∧ Below w.heap.size w ((w.alloc (.cells a T)).alloc (.cells b T)) := by
  refine ⟨by rw [Below.heap_alloc _ _ _ (by simp)]; exact nb_alloc _ _ _, ?_, ((Below.refl _ _).alloc (Nat.le_refl _) _).alloc (by simp) _⟩
  have := nb_alloc (w.alloc (.cells a T)) b T
  simpa using this

/-- The two operations of a meeting. -/
def Pair (kind ka kb va vb val : Int) : Prop := (kind = 0 ∧ ka = 0 ∧ kb = 0 ∧ va = 0 ∧ vb = 0) ∨ (kind = 1 ∧ (ka = 1 ∨ ka = 2) ∧ (kb = 1 ∨ kb = 2) ∧ va = val ∧ vb = val)

theorem Pair.ok {c : Conf} {ka kb va vb val : Int} (h : Pair c.kind ka kb va vb val) : okOp c ⟨ka, va, 0⟩ ∧ okOp c ⟨kb, vb, 0⟩ ∧ ka < 3 ∧ kb < 3 := by
  unfold okOp
  simp only
  rcases h with ⟨a, b, d, _⟩ | ⟨a, b, d, _⟩
  · exact ⟨Or.inr (Or.inl ⟨b, a⟩), Or.inr (Or.inl ⟨d, a⟩), by omega, by omega⟩
  · exact ⟨Or.inr (Or.inr ⟨b, a⟩), Or.inr (Or.inr ⟨d, a⟩), by omega, by omega⟩
theorem Pair.parted {kind ka kb va vb val : Int} (h : Pair kind ka kb va vb val) (W d s : Int) (hp : FreshP (newPr ⟨ka, va, 0⟩)) (hq : FreshP (newPr ⟨kb, vb, 0⟩)) :
    Parted (settledPr { incPr (pw6 W d s (newPr ⟨ka, va, 0⟩)) with met := -1 } (settledPr (incPr (m4 W d (newPr ⟨kb, vb, 0⟩))) (pw5 W d s (newPr ⟨ka, va, 0⟩)) 1) 0) (settledPr (incPr (m4 W d (newPr ⟨kb, vb, 0⟩))) (pw5 W d s (newPr ⟨ka, va, 0⟩)) 1) ka kb val := by
  rcases h with ⟨_, a, b, d1, d2⟩ | ⟨_, a, b, d1, d2⟩
  · have := Go.Proofs.Ytjnmpejcegmkhaa.parted (newPr ⟨ka, va, 0⟩) (newPr ⟨kb, vb, 0⟩) W d s hp hq 0 d1 d2 (fun h => absurd (a.trans b.symm) h)
    exact ⟨this.same, fun e => absurd (a.trans b.symm) e⟩
  · exact Go.Proofs.Ytjnmpejcegmkhaa.parted (newPr ⟨ka, va, 0⟩) (newPr ⟨kb, vb, 0⟩) W d s hp hq val d1 d2 (fun h => by
      have h' : ka ≠ kb := h
      show (ka = 1 ∧ kb = 2) ∨ (ka = 2 ∧ kb = 1)
      omega)

theorem parted_ways {x y : Pr} {ka kb val : Int} (h : Parted x y ka kb val) : ((x.phase = 0 ∧ x.node = 2) ∨ (x.phase = 19 ∧ x.node = 1)) ∧ ((y.phase = 0 ∧ y.node = 3) ∨ (y.phase = 19 ∧ y.node = 1)) := by
  by_cases e : ka = kb
  · obtain ⟨a, b, d, f⟩ := h.same e
    exact ⟨Or.inl ⟨a, b⟩, Or.inl ⟨d, f⟩⟩
  · obtain ⟨a, b, d, f, _⟩ := h.out e
    exact ⟨Or.inr ⟨a, d⟩, Or.inr ⟨b, f⟩⟩

theorem spawn_two {c : Conf} {K : Lay} (hK : K.procs = []) (oa ob : Op3) (okA : okOp c oa) (okB : okOp c ob) (hp : 2 ≤ c.procs) (ha : (newPr oa).phase = 0) :
    (okOp c oa ∧ (⟨K, [], []⟩ : Gh).L.procs.length < 256 ∧ (liveL (⟨K, [], []⟩ : Gh).L.procs : Int) < c.procs) ∧ (okOp c ob ∧ (gspawn c ⟨K, [], []⟩ oa).L.procs.length < 256 ∧ (liveL (gspawn c ⟨K, [], []⟩ oa).L.procs : Int) < c.procs) ∧ (gspawn c (gspawn c ⟨K, [], []⟩ oa) ob).L = two K (newPr oa) (newPr ob) := by
  have h1 : okOp c oa ∧ (⟨K, [], []⟩ : Gh).L.procs.length < 256 ∧ (liveL (⟨K, [], []⟩ : Gh).L.procs : Int) < c.procs := by
    refine ⟨okA, ?_, ?_⟩
    · show K.procs.length < 256; rw [hK]; decide
    · show (liveL K.procs : Int) < c.procs; rw [hK]; simp [liveL]; omega
  have e1 : gspawn c ⟨K, [], []⟩ oa = ⟨{ K with procs := [(0, newPr oa)] }, [oa], [false]⟩ := by
    unfold gspawn
    rw [if_pos h1]
    simp [hK]
  have h2 : okOp c ob ∧ (gspawn c ⟨K, [], []⟩ oa).L.procs.length < 256 ∧ (liveL (gspawn c ⟨K, [], []⟩ oa).L.procs : Int) < c.procs := by
    rw [e1]
    refine ⟨okB, by simp, ?_⟩
    simp [liveL, ha]
    omega
  refine ⟨h1, h2, ?_⟩
  have e2 : gspawn c (gspawn c ⟨K, [], []⟩ oa) ob = ⟨{ (gspawn c ⟨K, [], []⟩ oa).L with procs := (gspawn c ⟨K, [], []⟩ oa).L.procs ++ [(0, newPr ob)] }, (gspawn c ⟨K, [], []⟩ oa).ops ++ [ob], (gspawn c ⟨K, [], []⟩ oa).went ++ [false]⟩ := by
    exact if_pos h2
  rw [e2, e1]
  rfl

/-- The toggle of the root, in two lists of nodes. -/
theorem root_toggle (K : Lay) (x y : Pr) (hN : 1 < K.past.length) (hv : formH (K.hist 1) = 1) : ∃ i j, ∃ hi : i < (rnodes K).length, ∃ hj : j < (rnodes (two K x y)).length, findN 1 ((rnodes K).map fun d => d.num) 0 = (i : Int) ∧ findN 1 ((rnodes (two K x y)).map fun d => d.num) 0 = (j : Int) ∧ ((rnodes (two K x y))[j]).toggle = ((rnodes K)[i]).toggle := by
  have h1 : isV K 1 := ⟨by omega, by rw [hv]; decide⟩
  have h2 : isV (two K x y) 1 := h1
  rcases find_rnode K 1 with ⟨_, a⟩ | ⟨i, hi, a, b, _⟩
  · exact absurd ⟨hN, h1⟩ a
  · rcases find_rnode (two K x y) 1 with ⟨_, a'⟩ | ⟨j, hj, a', b', _⟩
    · exact absurd ⟨hN, h2⟩ a'
    · refine ⟨i, j, hi, hj, a, a', ?_⟩
      rw [b, b']
      unfold rnode
      rw [if_pos hv, if_pos (show formH ((two K x y).hist 1) = 1 from hv)]
      rfl

def meetC (c : Conf) : Conf := { c with depth := if c.depth = 0 then 1 else c.depth, start := if c.start = 0 then 1 else c.start, procs := if c.procs = 1 then 2 else c.procs }

set_option maxHeartbeats 16000000 in
set_option maxRecDepth 100000 in
theorem meets_walk (c : Conf) (f s val draw : Int) (hf : -9223372036854775808 ≤ f) (hs : -9223372036854775808 ≤ s) (w : World) : Calls Try.prog 9 #[confV c, I f, I s, I val, I draw] w fun e w' => e = .returned (.bool true) ∧ Below w.heap.size w w' := by
  unfold confV
  have hmc : meetC c = ⟨c.kind, if c.depth = 0 then 1 else c.depth, if c.start = 0 then 1 else c.start, c.slots, c.width, c.spin, c.drain, if c.procs = 1 then 2 else c.procs⟩ := rfl
  have D1 : Hid (∀ e : c.depth = 0, (if c.depth = 0 then 1 else c.depth) = 1) := fun e => if_pos e
  have D2 : Hid (∀ e : ¬ c.depth = 0, (if c.depth = 0 then 1 else c.depth) = c.depth) := fun e => if_neg e
  have S1 : Hid (∀ e : c.start = 0, (if c.start = 0 then 1 else c.start) = 1) := fun e => if_pos e
  have S2 : Hid (∀ e : ¬ c.start = 0, (if c.start = 0 then 1 else c.start) = c.start) := fun e => if_neg e
  have P1 : Hid (∀ e : c.procs = 1, (if c.procs = 1 then 2 else c.procs) = 2) := fun e => if_pos e
  have P2 : Hid (∀ e : ¬ c.procs = 1, (if c.procs = 1 then 2 else c.procs) = c.procs) := fun e => if_neg e
  generalize (if c.depth = 0 then 1 else c.depth) = dd at *
  generalize (if c.start = 0 then 1 else c.start) = ss at *
  generalize (if c.procs = 1 then 2 else c.procs) = pp at *
  obtain ⟨ckind, cdepth, cstart, cslots, cwidth, cspin, cdrain, cprocs⟩ := c
  simp only at *
  have HMC : Hid _ := hmc
  clear hmc
  have nb0 : (w.alloc (.cells #[I ckind, I cdepth, I cstart, I cslots, I cwidth, I cspin, I cdrain, I cprocs] 23)).heap[w.heap.size]? = some (.cells #[I ckind, I cdepth, I cstart, I cslots, I cwidth, I cspin, I cdrain, I cprocs] 23 (0, 0)) := nb_alloc _ _ _
  have hb0 : Below w.heap.size w (w.alloc (.cells #[I ckind, I cdepth, I cstart, I cslots, I cwidth, I cspin, I cdrain, I cprocs] 23)) := (Below.refl _ _).alloc (Nat.le_refl _) _
  go_enter Try.func9, Try.ntmps9
  go_upto_if 27 with fail
  go_cut [] (fun wx => wx.heap[w.heap.size]? = some (.cells #[I ckind, I dd, I cstart, I cslots, I cwidth, I cspin, I cdrain, I cprocs] 23 (0, 0)) ∧ Below w.heap.size w wx)
  case first =>
    by_cases e : cdepth = 0
    · have b : (cdepth == 0) = true := by rw [beq_iff_eq]; exact e
      have ed := D1.out e
      subst ed
      clear e
      go_wp2_with fail
      go_meet
      exact ⟨nb_alloc _ _ _, (Below.refl _ _).alloc (Nat.le_refl _) _⟩
    · have b : (cdepth == 0) = false := by rw [beq_eq_false_iff_ne]; exact e
      have ed := D2.out e
      subst ed
      clear e
      go_wp2_with fail
      go_meet
      exact ⟨nb0, hb0⟩
  case rest =>
    obtain ⟨nb1, hb1⟩ := hcut
    have hd0 : Hid (dd ≠ 0) := by
      show dd ≠ 0
      by_cases e : cdepth = 0
      · rw [D1.out e]; omega
      · rw [D2.out e]; exact e
    have hs0 : Hid (ss ≠ 0) := by
      show ss ≠ 0
      by_cases e : cstart = 0
      · rw [S1.out e]; omega
      · rw [S2.out e]; exact e
    have hp1 : Hid (pp ≠ 1) := by
      show pp ≠ 1
      by_cases e : cprocs = 1
      · rw [P1.out e]; omega
      · rw [P2.out e]; exact e
    generalize wc = wa at *
    obtain ⟨x1, f1⟩ := nb_facts nb1
    have l1 := (Array.getElem?_eq_some_iff.1 nb1).1
    clear nb0 hb0 D1 D2
    go_upto_if 31 with fail
    go_cut [] (fun wx => wx.heap[w.heap.size]? = some (.cells #[I ckind, I dd, I ss, I cslots, I cwidth, I cspin, I cdrain, I cprocs] 23 (0, 0)) ∧ Below w.heap.size w wx)
    case first =>
      by_cases e : cstart = 0
      · have b : (cstart == 0) = true := by rw [beq_iff_eq]; exact e
        have ed := S1.out e
        subst ed
        clear e
        go_wp2_with fail
        go_meet
        exact ⟨nb_set nb1 2 _, hb1.setCell (p := ⟨w.heap.size, 2, none⟩) (Nat.le_refl _) _⟩
      · have b : (cstart == 0) = false := by rw [beq_eq_false_iff_ne]; exact e
        have ed := S2.out e
        subst ed
        clear e
        go_wp2_with fail
        go_meet
        exact ⟨nb1, hb1⟩
    case rest =>
      clear nb1 hb1 x1 f1 l1
      obtain ⟨nb1, hb1⟩ := hcut
      generalize wc = wb at *
      obtain ⟨x1, f1⟩ := nb_facts nb1
      have l1 := (Array.getElem?_eq_some_iff.1 nb1).1
      clear S1 S2
      go_upto_if 35 with fail
      go_cut [] (fun wx => wx.heap[w.heap.size]? = some (.cells #[I ckind, I dd, I ss, I cslots, I cwidth, I cspin, I cdrain, I pp] 23 (0, 0)) ∧ Below w.heap.size w wx)
      case first =>
        by_cases e : cprocs = 1
        · have b : (cprocs == 1) = true := by rw [beq_iff_eq]; exact e
          have ed := P1.out e
          subst ed
          clear e
          go_wp2_with fail
          go_meet
          exact ⟨nb_set nb1 7 _, hb1.setCell (p := ⟨w.heap.size, 7, none⟩) (Nat.le_refl _) _⟩
        · have b : (cprocs == 1) = false := by rw [beq_eq_false_iff_ne]; exact e
          have ed := P2.out e
          subst ed
          clear e
          go_wp2_with fail
          go_meet
          exact ⟨nb1, hb1⟩
      case rest =>
        clear nb1 hb1 x1 f1 l1
        obtain ⟨nb1, hb1⟩ := hcut
        generalize wc = wd at *
        obtain ⟨x1, f1⟩ := nb_facts nb1
        have l1 := (Array.getElem?_eq_some_iff.1 nb1).1
        clear P1 P2 HMC
        have hdd := hd0.out
        have hss := hs0.out
        have hpp := hp1.out
        cases hm : mayC ⟨ckind, dd, ss, cslots, cwidth, cspin, cdrain, pp⟩
        · have hbg := fun W => kbegin_no ⟨ckind, dd, ss, cslots, cwidth, cspin, cdrain, pp⟩ W hm
          unfold confV at hbg
          replace hbg : Hid _ := hbg
          clear hm
          go_wp2_with fail
          refine Calls.mono (hbg.out _) ?_
          rintro e w1 ⟨rfl, hb2⟩
          go_wp2_with fail
          go_ret
          exact ⟨rfl, hb1.trans (hb2.mono hb1.size)⟩
        · have hbg := fun W => kbegin_yes ⟨ckind, dd, ss, cslots, cwidth, cspin, cdrain, pp⟩ W hm
          unfold confV at hbg
          replace hbg : Hid _ := hbg
          have HM : Hid _ := hm
          clear hm
          go_wp2_with fail
          refine Calls.mono (hbg.out _) ?_
          rintro e w1 ⟨hb, P, rfl, hk, hpn, hb2⟩
          have hst := KSt.new HM.out hk hpn hb2.size
          have hbw : Below w.heap.size w w1 := hb1.trans (hb2.mono hb1.size)
          have HB : Hid (w.heap.size ≤ wd.heap.size) := hb1.size
          generalize wd.heap.size = B at *
          have ck : w1.cell? ⟨hb, 1, none⟩ = some (I ckind) := by rw [hk.conf.1, hst.rel.rel.cP]
          have c0 := hk.t
          have lh := cell_lt ck
          have hf1 := fun W => pick_c f hf 2 (by omega) (by omega) W
          have hs1 := fun W => pick_c s hs 2 (by omega) (by omega) W
          replace hf1 : Hid _ := hf1
          replace hs1 : Hid _ := hs1
          have HST : Hid _ := hst
          clear hbg hk hpn hb1 hb2 nb1 x1 f1 l1 hst
          have hcf : (ckind = 0 ∨ ckind = 1) ∧ 1 ≤ dd ∧ 1 ≤ ss ∧ 2 ≤ pp := by
            have := HM.out
            simp [mayC] at this
            omega
          have nA : ((w1.alloc (.cells #[I 0, I 0, I 0] 33)).alloc (.cells #[I 0, I 0, I 0] 33)).heap[w1.heap.size]? = some (.cells #[I 0, I 0, I 0] 33 (0, 0)) := by
            rw [Below.heap_alloc _ _ _ (by simp)]; exact nb_alloc _ _ _
          have nB : ((w1.alloc (.cells #[I 0, I 0, I 0] 33)).alloc (.cells #[I 0, I 0, I 0] 33)).heap[w1.heap.size + 1]? = some (.cells #[I 0, I 0, I 0] 33 (0, 0)) := by
            have := nb_alloc (w1.alloc (.cells #[I 0, I 0, I 0] 33)) #[I 0, I 0, I 0] 33
            simpa using this
          have hbAB : Below w1.heap.size w1 ((w1.alloc (.cells #[I 0, I 0, I 0] 33)).alloc (.cells #[I 0, I 0, I 0] 33)) := ((Below.refl _ _).alloc (Nat.le_refl _) _).alloc (by simp) _
          clear hdd hss hpp hd0 hs0 hp1
          go_upto_if 56 with fail
          go_cut [] (fun wx => ∃ ka kb va vb : Int, wx.heap[w1.heap.size]? = some (.cells #[I ka, I va, I 0] 33 (0, 0)) ∧ wx.heap[w1.heap.size + 1]? = some (.cells #[I kb, I vb, I 0] 33 (0, 0)) ∧ Below w1.heap.size w1 wx ∧ Hid (Pair ckind ka kb va vb val))
          case first =>
            by_cases e : ckind = 1
            · have b : (ckind == 1) = true := by rw [beq_iff_eq]; exact e
              have HE : Hid _ := e
              clear e
              go_wp2_with fail
              refine Calls.mono (hf1.out _) ?_
              rintro e w2 ⟨⟨r1, hr1, rfl⟩, rfl⟩
              go_wp2_with fail
              refine Calls.mono (hs1.out _) ?_
              rintro e w2 ⟨⟨r2, hr2, rfl⟩, rfl⟩
              go_wp2_with fail
              go_meet
              obtain ⟨z1, z2, z3⟩ := two_blocks w1 #[I (1 + r1), I val, I 0] #[I (1 + r2), I val, I 0] 33
              exact ⟨1 + r1, 1 + r2, val, val, z1, z2, z3, Or.inr ⟨HE.out, by omega, by omega, rfl, rfl⟩⟩
            · have b : (ckind == 1) = false := by rw [beq_eq_false_iff_ne]; exact e
              have e0 : ckind = 0 := by omega
              clear e
              go_wp2_with fail
              go_meet
              exact ⟨0, 0, 0, 0, nA, nB, hbAB, Or.inl ⟨e0, rfl, rfl, rfl, rfl⟩⟩
          case rest =>
            clear nA nB hbAB hf1 hs1 ck
            obtain ⟨ka, kb, va, vb, nA, nB, hbx, hop⟩ := hcut
            generalize wc = w2 at *
            generalize hc' : (⟨ckind, dd, ss, cslots, cwidth, cspin, cdrain, pp⟩ : Conf) = c' at *
            have hop' : Pair c'.kind ka kb va vb val := by rw [← hc']; exact hop.out
            have hstart : 1 ≤ c'.start := by rw [← hc']; exact hcf.2.2.1
            have hprocs : 2 ≤ c'.procs := by rw [← hc']; exact hcf.2.2.2
            clear hc' hop hcf
            obtain ⟨okA, okB, kA, kB⟩ := hop'.ok
            have hfp := fresh_new ⟨ka, va, 0⟩ kA
            have hfq := fresh_new ⟨kb, vb, 0⟩ kB
            have hform := new_form HM.out hstart
            have hPT := hop'.parted (widthH ((newLay c').hist 1)) draw (newLay c').c.spin hfp hfq
            have hN1 : 1 < (newLay c').past.length := by rw [(newLay_new c').len]; have : 2 ^ 1 ≤ 2 ^ (c'.depth.toNat + 1) := Nat.pow_le_pow_right (by omega) (by omega); omega
            have hlen9 : ∀ k, ∀ ov, w2.cell? ⟨hb, 9, none⟩ = some ov → w1.heap.size ≤ k → ov.ownBlock ≠ some k := by
              intro k ov h9 hk e
              obtain ⟨ov', wv', hm'⟩ := HST.out.rep.mem
              have e1 : w1.cell? ⟨hb, 9, none⟩ = some ov' := by rw [(nb_facts hm'.blk).1 9]; rfl
              rw [(hbx.cell (p := ⟨hb, 9, none⟩) lh).trans e1] at h9
              simp only [Option.some.injEq] at h9
              subst h9
              have := (hm'.rop.lt k e).2
              omega
            have FA : Free w2 hb w1.heap.size #[I ka, I va, I 0] := ⟨nA, fun ov h9 => hlen9 _ ov h9 (Nat.le_refl _)⟩
            have FB : Free w2 hb (w1.heap.size + 1) #[I kb, I vb, I 0] := ⟨nB, fun ov h9 => hlen9 _ ov h9 (by omega)⟩
            have hst2 := HST.out.below hbx
            have hnd := HST.out.nodes hbx
            have d0 := (hbx.cell (p := ⟨hb, 0, none⟩) lh).trans c0
            have ld := cell_lt d0
            have hbw2 : Below w.heap.size w w2 := hbw.trans (hbx.mono hbw.size)
            have hB2 := hst2.hB
            have hKp : (newLay c').procs = [] := rfl
            generalize newLay c' = K at *
            obtain ⟨sp1, sp2, sp3⟩ := spawn_two hKp ⟨ka, va, 0⟩ ⟨kb, vb, 0⟩ okA okB hprocs hfp.phase
            have HSP1 : Hid _ := sp1
            have HSP2 : Hid _ := sp2
            have HSP3 : Hid _ := sp3
            have HFP : Hid _ := hfp
            have HFQ : Hid _ := hfq
            have HFO : Hid _ := hform
            have HPT : Hid _ := hPT
            have HN1 : Hid _ := hN1
            have HKP : Hid _ := hKp
            have HFA : Hid _ := FA
            have HFB : Hid _ := FB
            have HS2 : Hid _ := hst2
            have HBW : Hid _ := hbw2
            have HB2 : Hid _ := hB2
            replace hnd : Hid _ := hnd
            clear sp1 sp2 sp3 hfp hfq hform hPT hN1 hKp FA FB hst2 hbw2 hB2 hlen9 okA okB kA kB hop' hstart hprocs hbx hbw nA nB c0 HST HM hf hs
            go_wp2_with fail
            refine Calls.mono hnd.out ?_
            rintro e w3 ⟨x3, l3, rfl, hr3, el3, hb3⟩
            have FA3 := Free.keep HFA.out HS2.out.rep (ChgT.of_below hb3)
            have FB3 := Free.keep HFB.out HS2.out.rep (ChgT.of_below hb3)
            have hsp := hspawn2_c (HS2.out.below hb3) ⟨ka, va, 0⟩ HSP1.out
            unfold opV at hsp
            replace hsp : Hid _ := hsp
            obtain ⟨aa, ca, ex, a1, a2, a3, _⟩ := ownsRow_cells hr3.row
            subst ex
            obtain ⟨xa, _⟩ := nb_facts FA3.1
            have la := (Array.getElem?_eq_some_iff.1 FA3.1).1
            have HR3 : Hid _ := hr3
            have HEL3 : Hid _ := el3
            have HFA3 : Hid _ := FA3
            have HFB3 : Hid _ := FB3
            have HBW3 : Hid _ := HBW.out.trans (hb3.mono HBW.out.size)
            have HB3 : Hid _ := Nat.le_trans HB2.out hb3.size
            unfold maxLen at a2 a3
            clear hnd hr3 el3 FA3 FB3 HFA HFB HS2 HBW HB2 hb3 d0 ld HSP1
            go_wp2_with fail
            refine Calls.mono hsp.out ?_
            rintro e w4 ⟨rfl, ⟨P4, hst4⟩, hc4, hfr4⟩
            have FB4 := hfr4 _ _ HFB3.out
            have hsp2 := hspawn2_c hst4 ⟨kb, vb, 0⟩ HSP2.out
            unfold opV at hsp2
            replace hsp2 : Hid _ := hsp2
            obtain ⟨xb, _⟩ := nb_facts FB4.1
            have lb := (Array.getElem?_eq_some_iff.1 FB4.1).1
            have HFA4 : Hid _ := hfr4 _ _ HFA3.out
            have HFB4 : Hid _ := FB4
            have HC4 : Hid _ := hc4
            clear hsp hst4 hc4 hfr4 FB4 HFA3 HFB3 HSP2 xa la
            go_wp2_with fail
            refine Calls.mono hsp2.out ?_
            rintro e w5 ⟨rfl, ⟨P5, hst5⟩, hc5, hfr5⟩
            have hK5 : KL w5 B hb c' (two K (newPr ⟨ka, va, 0⟩) (newPr ⟨kb, vb, 0⟩)) := ⟨_, _, hst5, HSP3.out⟩
            have hra := runA (d := draw) HFP.out HFQ.out HFO.out hK5
            replace hra : Hid _ := hra
            have HFA5 : Hid _ := hfr5 _ _ HFA4.out
            have HFB5 : Hid _ := hfr5 _ _ HFB4.out
            have HC5 : Hid _ := HC4.out.trans hc5
            clear hsp2 hst5 hc5 hfr5 HFA4 HFB4 HC4 HSP3 xb lb hK5
            go_wp2_with fail
            refine Calls.mono hra.out ?_
            rintro e w6 ⟨rfl, hK6, hc6, hfr6⟩
            have hrb := runB (d := draw) HFP.out HFQ.out HFO.out hK6
            replace hrb : Hid _ := hrb
            have HFA6 : Hid _ := hfr6 _ _ HFA5.out
            have HFB6 : Hid _ := hfr6 _ _ HFB5.out
            have HC6 : Hid _ := HC5.out.trans (hc6.mono (Nat.le_refl _) (by simp))
            clear hra hK6 hc6 hfr6 HFA5 HFB5 HC5
            go_wp2_with fail
            refine Calls.mono hrb.out ?_
            rintro e w7 ⟨rfl, hK7, hc7, hfr7⟩
            have hrc := runC (d := draw) _ _ HFP.out HFQ.out hK7
            replace hrc : Hid _ := hrc
            have HFA7 : Hid _ := hfr7 _ _ HFA6.out
            have HFB7 : Hid _ := hfr7 _ _ HFB6.out
            have HC7 : Hid _ := HC6.out.trans (hc7.mono (Nat.le_refl _) (by simp))
            clear hrb hK7 hc7 hfr7 HFA6 HFB6 HC6
            go_wp2_with fail
            refine Calls.mono hrc.out ?_
            rintro e w8 ⟨⟨x8, rfl⟩, hK8, hc8, hfr8⟩
            have hrd := runD (d := draw) _ _ _ hK8
            replace hrd : Hid _ := hrd
            have HFA8 : Hid _ := hfr8 _ _ HFA7.out
            have HFB8 : Hid _ := hfr8 _ _ HFB7.out
            have HC8 : Hid _ := HC7.out.trans (hc8.mono (Nat.le_refl _) (by simp))
            clear hrc hK8 hc8 hfr8 HFA7 HFB7 HC7
            go_wp2_with fail
            refine Calls.mono hrd.out ?_
            rintro e w9 ⟨⟨x9, rfl⟩, hK9, hc9, hfr9⟩
            have FA9 := hfr9 _ _ HFA8.out
            have FB9 := hfr9 _ _ HFB8.out
            have hc39 := HC8.out.trans (hc9.mono (T' := KT) (Nat.le_refl _) (by simp))
            obtain ⟨X, Y, hKx, hPT⟩ : ∃ X Y, KL w9 B hb c' (two K X Y) ∧ Parted X Y ka kb val := ⟨_, _, hK9, HPT.out⟩
            have hpw := parted_ways hPT
            have hsame : SameL (rnodes K) (rnodes (two K X Y)) 1 false := sameL_of 1 false rfl fun u u1 _ n1 _ => parted_same K X Y hpw.1 hpw.2 HKP.out u u1 (fun e => n1 ⟨e, by omega⟩)
            obtain ⟨ti, tj, hti, htj, t1, t2, t3⟩ := root_toggle K X Y HN1.out HFO.out
            have hap : Hid (∀ W, Below w9.heap.size w9 W → Calls Try.prog 22 #[.pointer (some ⟨hb, 0, none⟩), .agg #[I ka, I va, I 0], .agg #[I kb, I vb, I 0], I val] W fun e w' => e = .returned (.bool true) ∧ Below W.heap.size W w') :=
              fun W hW => hapart_c (hKx.below hW) Nat.zero_lt_two Nat.one_lt_two ka va 0 kb vb 0 val hPT
            obtain ⟨S9, P9, hk9, e9⟩ := hKx
            have hn9 := hk9.nodes (Below.refl _ _)
            rw [e9] at hn9
            have c9 := hk9.rep.t
            have l9 := cell_lt c9
            have HR9 : Hid _ := HR3.out.chg2 hc39 (by decide) (by decide)
            have HBW9 : Hid (Below w.heap.size w w9) := HBW3.out.trans ((hc39.below HB3.out).mono HB.out)
            have HFA9 : Hid _ := FA9.1
            have HFB9 : Hid _ := FB9.1
            have HSA : Hid _ := hsame
            have T1 : Hid _ := t1
            have T2 : Hid _ := t2
            have T3 : Hid _ := t3
            replace hn9 : Hid _ := hn9
            clear hrd hK9 hc9 hfr9 HFA8 HFB8 HC8 FA9 FB9 hc39 hpw hsame t1 t2 t3 hk9 e9 hPT HPT HR3 HBW3 HB3 HB HN1 HKP HFP HFQ HFO
            go_wp2_with fail
            refine Calls.mono hn9.out ?_
            rintro e w10 ⟨x10, l10, rfl, hr10, el10, hb10⟩
            have hr9 := HR9.out.below hb10 (Nat.le_refl _)
            have e1 : l3.map (fun y => y.1.num) = (rnodes K).map fun d => d.num := by rw [← HEL3.out]; simp [List.map_map, Function.comp_def]
            have e2 : l10.map (fun y => y.1.num) = (rnodes (two K X Y)).map fun d => d.num := by rw [← el10]; simp [List.map_map, Function.comp_def]
            have hf1 := find_c hr9 1
            have hf2 := find_c hr10 1
            rw [e1, T1.out] at hf1
            rw [e2, T2.out] at hf2
            have hsb := ksameBut_c hr9 hr10 1 false (by rw [HEL3.out, el10]; exact HSA.out)
            have hl3 : ti < l3.length := by have := congrArg List.length HEL3.out; simp at this; have := hti; omega
            have hl10 : tj < l10.length := by have := congrArg List.length el10; simp at this; have := htj; omega
            obtain ⟨g3, eg3, lg3, f3⟩ := nodes_at hr9 ti hl3
            obtain ⟨g10, eg10, lg10, f10⟩ := nodes_at hr10 tj hl10
            have hx3 : (l3[ti]).1 = (rnodes K)[ti]'hti := by
              have := congrArg (fun l => l[ti]?) HEL3.out
              simpa [hl3, hti] using this
            have hx10 : (l10[tj]).1 = (rnodes (two K X Y))[tj]'htj := by
              have := congrArg (fun l => l[tj]?) el10
              simpa [hl10, htj] using this
            have z3 : w10.cell? ⟨g3, ti * 12 + 6, none⟩ = some (I (((rnodes K)[ti]'hti).toggle)) := by
              have := f3 6 (by omega)
              rw [hx3] at this
              simpa [ndCells] using this
            have z10 : w10.cell? ⟨g10, tj * 12 + 6, none⟩ = some (I (((rnodes K)[ti]'hti).toggle)) := by
              have := f10 6 (by omega)
              rw [hx10] at this
              rw [← T3.out]
              simpa [ndCells] using this
            generalize ((rnodes K)[ti]'hti).toggle = tg at *
            obtain ⟨ab, cb, ex, b1, b2, b3, _⟩ := ownsRow_cells hr10.row
            subst ex
            have eg3' := eg3 _ _ _ rfl
            have eg10' := eg10 _ _ _ rfl
            subst eg3' eg10'
            have nA10 := (hb10.block _ (Array.getElem?_eq_some_iff.1 HFA9.out).1).trans HFA9.out
            have nB10 := (hb10.block _ (Array.getElem?_eq_some_iff.1 HFB9.out).1).trans HFB9.out
            have HBW10 : Hid _ := HBW9.out.trans (hb10.mono HBW9.out.size)
            have HB10 : Hid _ := hb10
            unfold maxLen at b2 b3
            replace hf1 : Hid _ := hf1
            replace hf2 : Hid _ := hf2
            replace hsb : Hid _ := hsb
            have HNA : Hid _ := nA10
            have HNB : Hid _ := nB10
            have Z3 : Hid _ := z3
            have Z10 : Hid _ := z10
            clear hn9 hr9 hr10 el10 e1 e2 eg3 eg10 f3 f10 hx3 hx10 z3 z10 nA10 nB10 hb10 HR9 HEL3 HSA T1 T2 T3 HFA9 HFB9 HBW9
            go_wp2_with fail
            refine Calls.mono hf1.out ?_
            rintro e w11 ⟨rfl, rfl⟩
            go_wp2_with fail
            refine Calls.mono hf2.out ?_
            rintro e w11 ⟨rfl, rfl⟩
            go_wp2_with fail
            refine Calls.mono hsb.out ?_
            rintro e w12 ⟨rfl, hb12⟩
            have nA12 := (hb12.block _ (Array.getElem?_eq_some_iff.1 HNA.out).1).trans HNA.out
            have nB12 := (hb12.block _ (Array.getElem?_eq_some_iff.1 HNB.out).1).trans HNB.out
            obtain ⟨xa, _⟩ := nb_facts nA12
            obtain ⟨xb, _⟩ := nb_facts nB12
            have la := (Array.getElem?_eq_some_iff.1 nA12).1
            have lb := (Array.getElem?_eq_some_iff.1 nB12).1
            have hcl := hap.out _ (HB10.out.trans (hb12.mono HB10.out.size))
            replace hcl : Hid _ := hcl
            clear hf1 hf2 hsb hap
            go_wp2_with fail
            refine Calls.mono hcl.out ?_
            rintro e w13 ⟨rfl, hb13⟩
            have hb14 := hb12.trans (hb13.mono hb12.size)
            have y3 := (hb14.cell (p := ⟨g3, ti * 12 + 6, none⟩) lg3).trans Z3.out
            have y10 := (hb14.cell (p := ⟨g10, tj * 12 + 6, none⟩) lg10).trans Z10.out
            have ly3 := cell_lt y3
            have ly10 := cell_lt y10
            have bi : decide ((0 : Int) ≤ (ti : Int)) = true := decide_eq_true (by omega)
            have bj : decide ((0 : Int) ≤ (tj : Int)) = true := decide_eq_true (by omega)
            clear hcl xa xb nA12 nB12 la lb hb12 hb13
            go_wp2_with fail
            go_quiet (fail)
            go_wp2_with fail
            go_ret
            exact ⟨rfl, Below.drewN' (HBW10.out.trans (hb14.mono HBW10.out.size)) _⟩

end Go.Proofs.Ytjnmpejcegmkhaa
