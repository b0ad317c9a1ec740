/- What holds of the document's tree through every play of a hand. No statement of the seat is proved here. Of every value as much lies in the leaves as Puts have brought and Gets have not taken: through every play of a hand (the document's tree alone). No statement of the seat is proved here. The tickets of a pool's leaves: each was used, or somebody holds it (the document's tree alone). No statement of the seat is proved here. The tickets of a pool's leaves: through every Step (the document's tree alone). No statement of the seat is proved here. The tickets of a pool's leaves: Store, Fetch, Change, and every play of a hand (the document's tree alone). No statement of the seat is proved here. What lies in a pool's leaf had room there (the document's tree alone). No statement of the seat is proved here. A still tree is even (P12), of the document's tree alone. No statement of the seat is proved here. What is asked of a hand, of the document's tree beside it. No statement of the seat is proved here. Contracts of package prismkeep's up, still and even. No statement of the seat is proved here. What prismkeep counts of a value (the document's tree alone). No statement of the seat is proved here. A pool in which nobody can go on: what lies in its leaves, and who waits (the document's tree alone). No statement of the seat is proved here. -/
import Derived.Test.YtjnmpejcegmkhabVal2
import Derived.Test.YtjnmpejcegmkhabNew0
import Derived.Deep.DeepCutAuto
import Derived.Deep.QuietTactic
import Derived.BigQuiet
namespace Go.Proofs.Ytjnmpejcegmkhab
open Go.RowKit

structure XOk (c : Conf) (L : Lay) : Prop where
  pat : PatOk c L
  tot : TotOk L

theorem XOk.step {c : Conf} {L : Lay} {P : PLay} (h : CRel c L P) (x : XOk c L) {i : Nat} (hi : i < L.procs.length) (hl : (L.procs[i]).2.phase ≠ 20) (draw : Int) : XOk c (lstep L i draw) := by
  obtain ⟨_, _, _, _, hp, _⟩ := h.sq x.pat hi hl draw
  obtain ⟨v, n, hh⟩ := h.rel.here hi hl
  exact ⟨hp, hh.tot h.ck draw x.tot⟩

theorem sumP_one (f : Pr → Int) (x : Nat × Pr) : ∀ ps : Ps, sumP f (ps ++ [x]) = sumP f ps + f x.2
  | [] => by simp [sumP]
  | y :: r => by simp only [List.cons_append, sumP]; rw [sumP_one f x r]; omega

theorem XOk.spawn {c : Conf} {L : Lay} {P : PLay} (h : CRel c L P) (x : XOk c L) (o : Op3) : XOk c { L with procs := L.procs ++ [(0, newPr o)] } := by
  have hph : (newPr o).phase = 0 ∨ ((newPr o).phase = 15 ∧ 3 ≤ o.kind) := by
    unfold newPr
    by_cases e : isChange o ∧ o.node = 1
    · right
      refine ⟨by simp [e], ?_⟩
      have := e.1
      unfold isChange at this
      simp at this
      omega
    · left
      simp [e]
  refine ⟨fun i hi => ?_, ?_⟩
  · have hi' : i < (L.procs ++ [(0, newPr o)]).length := hi
    simp only [List.length_append, List.length_cons, List.length_nil] at hi'
    by_cases e : i < L.procs.length
    · simp only [List.getElem_append_left e]
      exact x.pat i e
    · have e' : i = L.procs.length := by omega
      subst e'
      simp only [List.getElem_append_right (Nat.le_refl _), Nat.sub_self, List.getElem_cons_zero]
      refine ⟨fun a => ?_, fun a => ?_⟩
      · have : (newPr o).phase = 6 := a
        omega
      · have : (newPr o).phase = 16 := a
        omega
  · have ht := x.tot
    unfold TotOk at ht ⊢
    show balS L + sumP (tokP (L.procs ++ [(0, newPr o)])) (L.procs ++ [(0, newPr o)]) = sumP (fun p => sgn p.kind) (L.procs ++ [(0, newPr o)])
    rw [sumP_one, sumP_one]
    have e1 : sumP (tokP (L.procs ++ [(0, newPr o)])) L.procs = sumP (tokP L.procs) L.procs := by
      refine sumP_congr _ _ _ fun j hj => ?_
      cases hm : metB (L.procs[j]).2 with
      | false => unfold tokP; rw [hm]; simp
      | true =>
        have hlt : (L.procs[j]).2.met.toNat < L.procs.length := by
          have hm' := hm
          unfold metB at hm'
          simp only [Bool.and_eq_true, Bool.or_eq_true, decide_eq_true_eq] at hm'
          obtain ⟨v, n, hh⟩ := h.rel.here hj (by omega)
          obtain ⟨k, hk, hs⟩ := hh.slotk
          obtain ⟨_, hx⟩ := hh.mine hm'.1 hk hs (hh.inner (by omega) (by omega))
          rcases hx with ⟨_, _, e⟩ | ⟨_, b, _, e, hb, _⟩
          · omega
          · omega
        unfold tokP
        rw [kindAt_app hlt]
    have e2 : tokP (L.procs ++ [(0, newPr o)]) (newPr o) = sgn (newPr o).kind := by
      rcases hph with e | ⟨e, hk⟩
      · rw [tokP_lo (by omega), if_pos (by omega)]
      · rw [tokP_ch (show 3 ≤ (newPr o).kind from hk)]
        show 0 = sgn o.kind
        unfold sgn
        rw [if_neg (by omega), if_neg (by omega)]
    rw [e1]
    show balS L + (_ + tokP (L.procs ++ [(0, newPr o)]) (newPr o)) = _ + sgn (newPr o).kind
    rw [e2]
    omega

theorem XOk.new (c : Conf) : XOk c (newLay c) := by
  refine ⟨fun i hi => absurd hi (Nat.not_lt_zero _), ?_⟩
  show balS (newLay c) + 0 = 0
  have : balS (newLay c) = 0 := by
    unfold balS
    refine sumN_zero _ _ fun w hw => ?_
    by_cases h0 : w = 0
    · subst h0
      rw [(newLay_new c).hist0]
      simp [balH, formH]
    · rw [(newLay_new c).hist w (by omega) hw]
      unfold newHist
      split
      · simp [balH, formH]
      · split
        · simp [balH, formH, putsH, fromH, manyH]
        · simp [balH, formH]
  omega

end Go.Proofs.Ytjnmpejcegmkhab

namespace Go.Proofs.Ytjnmpejcegmkhab
open Go.RowKit

structure VOk (L : Lay) : Prop where
  kd : KdOk L
  val : ValOk L

theorem VOk.step {c : Conf} {L : Lay} {P : PLay} (h : CRel c L P) (hc : c.kind = 1) (x : VOk L) {i : Nat} (hi : i < L.procs.length) (hl : (L.procs[i]).2.phase ≠ 20) (draw : Int) : VOk (lstep L i draw) := by
  obtain ⟨v, n, hh⟩ := h.rel.here hi hl
  exact ⟨hh.kd h.ck hc draw x.kd, hh.val h.ck hc draw x.kd x.val⟩

theorem ovalAt_app {ps : Ps} {x : Nat × Pr} {m : Int} (h : m.toNat < ps.length) : ovalAt (ps ++ [x]) m = ovalAt ps m := by
  unfold ovalAt
  rw [List.getElem?_append_left h]

theorem VOk.spawn {c : Conf} {L : Lay} {P : PLay} (h : CRel c L P) (x : VOk L) (o : Op3) : VOk { L with procs := L.procs ++ [(0, newPr o)] } := by
  have hph : (newPr o).phase = 0 ∨ (newPr o).phase = 15 := by
    unfold newPr
    simp only
    split
    · exact Or.inr rfl
    · exact Or.inl rfl
  refine ⟨fun i hi => ?_, fun y => ?_⟩
  · have hi0 : i < (L.procs ++ [(0, newPr o)]).length := hi
    show (((L.procs ++ [(0, newPr o)])[i]).2.phase = 13 → _) ∧ (((L.procs ++ [(0, newPr o)])[i]).2.phase = 14 → _)
    by_cases e : i < L.procs.length
    · rw [List.getElem_append_left e]
      exact x.kd i e
    · simp only [List.length_append, List.length_cons, List.length_nil] at hi0
      have e' : i = L.procs.length := by omega
      subst e'
      simp only [List.getElem_concat_length]
      exact ⟨fun a => by omega, fun a => by omega⟩
  · have hx := x.val y
    show cntS y L = sumP (vP y (L.procs ++ [(0, newPr o)])) (L.procs ++ [(0, newPr o)])
    rw [sumP_one]
    have h0 : vP y (L.procs ++ [(0, newPr o)]) (newPr o) = 0 := vP_lo (by omega) (by omega)
    rw [h0, hx, Int.add_zero]
    refine sumP_congr _ _ _ fun i hi => ?_
    by_cases hm : metB (L.procs[i]).2 = true
    · have hm' := hm
      unfold metB at hm'
      simp only [Bool.and_eq_true, Bool.or_eq_true, decide_eq_true_eq] at hm'
      have hlt : (L.procs[i]).2.met.toNat < L.procs.length := by
        obtain ⟨v, n, hh⟩ := h.rel.here hi (by omega)
        obtain ⟨k, hk, hs⟩ := hh.slotk
        obtain ⟨_, hx⟩ := hh.mine hm'.1 hk hs (hh.inner (by omega) (by omega))
        rcases hx with ⟨_, _, e⟩ | ⟨_, b, _, e, hb, _⟩
        · omega
        · omega
      unfold vP
      rw [kindAt_app hlt, ovalAt_app hlt]
    · unfold vP
      simp [hm]

theorem VOk.new (c : Conf) : VOk (newLay c) := by
  refine ⟨fun i hi => absurd hi (Nat.not_lt_zero _), fun x => ?_⟩
  show cntS x (newLay c) = 0
  unfold cntS
  refine sumN_zero _ _ fun w hw => ?_
  by_cases h0 : w = 0
  · subst h0
    rw [(newLay_new c).hist0]
    simp [cntH, formH]
  · rw [(newLay_new c).hist w (by omega) hw]
    unfold newHist
    split
    · simp [cntH, formH]
    · split
      · simp [cntH, formH, itemsH, itemsTo, putsH, fromH, manyH]
      · simp [cntH, formH]

end Go.Proofs.Ytjnmpejcegmkhab

namespace Go.Proofs.Ytjnmpejcegmkhab
open Go.RowKit

/-- Somebody stands at u in the phase k with the ticket t. -/
def holdK (k : Int) (l : List PP) (u t : Nat) : Prop := ∃ j, ∃ hj : j < l.length, (l[j]).phase = k ∧ (l[j]).node = (u : Int) ∧ (l[j]).ticket = (t : Int)

theorem set_get {l : List PP} {i j : Nat} {x : PP} (hj : j < (l.set i x).length) : (j = i ∧ (l.set i x)[j] = x) ∨ (j ≠ i ∧ ∃ hj0 : j < l.length, (l.set i x)[j] = l[j]) := by
  have hj0 : j < l.length := by simpa using hj
  by_cases e : j = i
  · subst e
    exact Or.inl ⟨rfl, List.getElem_set_self _⟩
  · exact Or.inr ⟨e, hj0, List.getElem_set_ne (Ne.symm e) _⟩

theorem holdK.set {k : Int} {l : List PP} {u t i : Nat} {x : PP} (h : holdK k l u t) (hi : i < l.length) (hne : ¬ ((l[i]).phase = k ∧ (l[i]).node = (u : Int) ∧ (l[i]).ticket = (t : Int))) : holdK k (l.set i x) u t := by
  obtain ⟨j, hj, h1, h2, h3⟩ := h
  have e : j ≠ i := fun e => by subst e; exact hne ⟨h1, h2, h3⟩
  have hj' : j < (l.set i x).length := by simpa using hj
  refine ⟨j, hj', ?_⟩
  rw [List.getElem_set_ne (Ne.symm e)]
  exact ⟨h1, h2, h3⟩
theorem holdK.new {k : Int} {l : List PP} {u t i : Nat} {x : PP} (hi : i < l.length) (h : x.phase = k ∧ x.node = (u : Int) ∧ x.ticket = (t : Int)) : holdK k (l.set i x) u t := by
  refine ⟨i, by simpa using hi, ?_⟩
  rw [List.getElem_set_self]
  exact h

structure TkAt (l : Hist) (ps : List PP) (u : Nat) : Prop where
  put : ∀ t : Nat, (t : Int) < putsH l → itemH l t ≠ none ∨ takenH l t = true ∨ holdK 13 ps u t
  get : ∀ t : Nat, t < manyH 7 (-1) l → takenH l t = true ∨ holdK 14 ps u t
  tk : ∀ t : Nat, takenH l t = true → t < manyH 7 (-1) l

structure TkOk (L : Lay) : Prop where
  at' : ∀ u, 1 ≤ u → u < L.past.length → formH (L.hist u) = 2 → TkAt (L.hist u) (toPPs L.procs) u
  g14 : ∀ j, (hj : j < (toPPs L.procs).length) → ((toPPs L.procs)[j]).phase = 14 → ((toPPs L.procs)[j]).ticket < manyH 7 (-1) (L.hist ((toPPs L.procs)[j]).node.toNat) ∧ takenH (L.hist ((toPPs L.procs)[j]).node.toNat) ((toPPs L.procs)[j]).ticket = false
  gun : ∀ j k, (hj : j < (toPPs L.procs).length) → (hk : k < (toPPs L.procs).length) → ((toPPs L.procs)[j]).phase = 14 → ((toPPs L.procs)[k]).phase = 14 → ((toPPs L.procs)[j]).node = ((toPPs L.procs)[k]).node → ((toPPs L.procs)[j]).ticket = ((toPPs L.procs)[k]).ticket → j = k

/-- Alike for the tickets. -/
structure SameTk (l l' : Hist) : Prop where
  form : formH l' = formH l
  puts : putsH l' = putsH l
  item : ∀ t, itemH l' t = itemH l t
  taken : ∀ t, takenH l' t = takenH l t
  gets : manyH 7 (-1) l' = manyH 7 (-1) l
theorem SameTk.refl (l : Hist) : SameTk l l := ⟨rfl, rfl, fun _ => rfl, fun _ => rfl, rfl⟩
theorem sameTk_ev (l : Hist) (ev : Ev) (iv : Value) (h : ev.what = 4 ∨ ev.what = 5) : SameTk l ((ev, iv) :: l) := by
  have h3 : 3 < ev.what := by omega
  have n3 : ¬ ev.what ≤ 3 := by omega
  have n6 : ev.what ≠ 6 := by omega
  have n7 : ev.what ≠ 7 := by omega
  have n8 : ev.what ≠ 8 := by omega
  have n9 : ev.what ≠ 9 := by omega
  have ht : ∀ t, takenH ((ev, iv) :: l) t = takenH l t := by
    intro t
    unfold takenH
    simp [manyH, h3, n9]
  refine ⟨by simp [formH, n3], by unfold putsH; simp [fromH, manyH, n3, h3, n6], fun t => ?_, ht, by simp [manyH, h3, n7]⟩
  unfold itemH
  rw [ht]
  simp [fromH, laidH, n3, h3, n8]

section
variable {c : Conf} {L : Lay} {P : PLay} {i v : Nat} {p : Pr} {n : PN}

theorem hap_same (q p' : Pr) (ev : Ev) (hv : v < L.past.length) (h : ev.what = 4 ∨ ev.what = 5) (u : Nat) : SameTk (L.hist u) ((((L.setP i q).hap v nilV ev nilV).setP i p').hist u) := by
  have e : (((L.setP i q).hap v nilV ev nilV).setP i p').hist u = ((L.setP i q).hap v nilV ev nilV).hist u := rfl
  rw [e, hist_hap (L.setP i q) v u nilV ev nilV hv]
  by_cases eu : u = v
  · subst eu
    rw [if_pos rfl]
    exact sameTk_ev _ _ _ h
  · rw [if_neg eu]
    exact SameTk.refl _

theorem Here.sameTk (h : Here c L P i v p n) (draw : Int) (hne : p.phase ≠ 12 ∧ p.phase ≠ 13 ∧ p.phase ≠ 14 ∧ p.phase ≠ 17) (u : Nat) : SameTk (L.hist u) ((lstep L i draw).hist u) := by
  have hv := h.vN
  rw [h.lat draw, h.lget]
  simp only
  by_cases e8 : p.phase = 8
  · rw [if_pos e8]
    obtain ⟨j, hm, hj, hji⟩ := h.q.mind e8
    have ej : p.mind.toNat = j := by omega
    rw [ej, List.getElem?_eq_getElem hj]
    simp only
    split <;> exact SameTk.refl _
  rw [if_neg e8]
  by_cases e9 : p.phase = 9
  · rw [if_pos e9]
    exact hap_same _ _ _ hv (Or.inr rfl) u
  rw [if_neg e9]
  by_cases e10 : p.phase = 10
  · rw [if_pos e10]
    exact hap_same _ _ _ hv (Or.inr rfl) u
  rw [if_neg e10]
  by_cases e11 : p.phase = 11
  · rw [if_pos e11]
    exact hap_same _ _ _ hv (Or.inl rfl) u
  rw [if_neg e11, if_neg hne.1, if_neg hne.2.1, if_neg hne.2.2.1, if_neg hne.2.2.2]
  exact SameTk.refl _

/-- Who takes no ticket, and has none, changes nothing. -/
theorem tk_else {L' : Lay} (ht : TkOk L) (hil : i < (toPPs L.procs).length) {q' : PP} (hp0 : ((toPPs L.procs)[i]).phase ≠ 13 ∧ ((toPPs L.procs)[i]).phase ≠ 14) (np : q'.phase ≠ 14) (hpr : toPPs L'.procs = (toPPs L.procs).set i q') (hl : L'.past.length = L.past.length) (hsm : ∀ u, SameTk (L.hist u) (L'.hist u)) : TkOk L' := by
  refine ⟨fun u h1 hu hf => ?_, fun j hj h14 => ?_, fun j k hj hk a b => ?_⟩
  · have s := hsm u
    have a := ht.at' u h1 (by omega) (by rw [← s.form]; exact hf)
    rw [hpr]
    refine ⟨fun t htp => ?_, fun t htg => ?_, fun t htk => ?_⟩
    · rw [s.item, s.taken]
      rcases a.put t (by rw [← s.puts]; exact htp) with x | x | x
      · exact Or.inl x
      · exact Or.inr (Or.inl x)
      · exact Or.inr (Or.inr (x.set hil (fun z => hp0.1 z.1)))
    · rw [s.taken]
      rcases a.get t (by rw [← s.gets]; exact htg) with x | x
      · exact Or.inl x
      · exact Or.inr (x.set hil (fun z => hp0.2 z.1))
    · rw [s.gets]
      exact a.tk t (by rw [← s.taken]; exact htk)
  · have key : ∀ (l : List PP) (hj : j < l.length), l = (toPPs L.procs).set i q' → (l[j]).phase = 14 → (l[j]).ticket < manyH 7 (-1) (L'.hist (l[j]).node.toNat) ∧ takenH (L'.hist (l[j]).node.toNat) (l[j]).ticket = false := by
      intro l hj e h14
      subst e
      rcases set_get hj with ⟨_, e⟩ | ⟨_, hj0, e⟩
      · rw [e] at h14
        exact absurd h14 np
      · rw [e] at h14 ⊢
        have := ht.g14 j hj0 h14
        rw [(hsm _).gets, (hsm _).taken]
        exact this
    exact key _ hj hpr h14
  · have key : ∀ (l : List PP) (hj : j < l.length) (hk : k < l.length), l = (toPPs L.procs).set i q' → (l[j]).phase = 14 → (l[k]).phase = 14 → (l[j]).node = (l[k]).node → (l[j]).ticket = (l[k]).ticket → j = k := by
      intro l hj hk e a b d f
      subst e
      rcases set_get hj with ⟨_, e⟩ | ⟨_, hj0, e⟩
      · rw [e] at a
        exact absurd a np
      · rcases set_get hk with ⟨_, e'⟩ | ⟨_, hk0, e'⟩
        · rw [e'] at b
          exact absurd b np
        · rw [e] at a d f
          rw [e'] at b d f
          exact ht.gun j k hj0 hk0 a b d f
    exact key _ hj hk hpr a b

theorem Here.tkA (h : Here c L P i v p n) (ck : CK c L P) (draw : Int) (hne : p.phase ≠ 12 ∧ p.phase ≠ 13 ∧ p.phase ≠ 14 ∧ p.phase ≠ 17) (ht : TkOk L) : TkOk (lstep L i draw) := by
  obtain ⟨p', hw⟩ := h.went ck draw
  have hi := h.hi
  have hpm := hw.pm
  have hil : i < (toPPs L.procs).length := by rw [toPPs_len]; exact hi
  have hpi : (toPPs L.procs)[i] = toPP p := by rw [toPPs_at _ _ hi, h.ep]
  have np : p'.phase ≠ 14 := by
    generalize p.phase = a at *
    generalize p'.phase = b at *
    generalize p'.node = nd at *
    cases hpm <;> omega
  exact tk_else ht hil (by rw [hpi]; exact ⟨hne.2.1, hne.2.2.1⟩) (q' := toPP p') np hw.procs hw.past (h.sameTk draw hne)
end

end Go.Proofs.Ytjnmpejcegmkhab

namespace Go.Proofs.Ytjnmpejcegmkhab
open Go.RowKit

section
variable {c : Conf} {L : Lay} {P : PLay} {i v : Nat} {p : Pr} {n : PN}

/-- One process and one leaf's history change. -/
theorem tk_hap {L' : Lay} (ht : TkOk L) (hi : i < (toPPs L.procs).length) {q' : PP} (hp : toPPs L'.procs = (toPPs L.procs).set i q') (hl : L'.past.length = L.past.length) (hother : ∀ u, u ≠ v → L'.hist u = L.hist u)
    (hat : ((toPPs L.procs)[i]).node = (v : Int)) (hn : q'.node = (v : Int)) (hv1 : 1 ≤ v) (hform : formH (L'.hist v) = 2) (hform0 : formH (L.hist v) = 2) (hv : v < L.past.length)
    (hput : ∀ t : Nat, (t : Int) < putsH (L'.hist v) → itemH (L'.hist v) t ≠ none ∨ takenH (L'.hist v) t = true ∨ holdK 13 ((toPPs L.procs).set i q') v t)
    (hget : ∀ t : Nat, t < manyH 7 (-1) (L'.hist v) → takenH (L'.hist v) t = true ∨ holdK 14 ((toPPs L.procs).set i q') v t)
    (htk : ∀ t : Nat, takenH (L'.hist v) t = true → t < manyH 7 (-1) (L'.hist v))
    (h14 : q'.phase = 14 → q'.ticket < manyH 7 (-1) (L'.hist v) ∧ takenH (L'.hist v) q'.ticket = false ∧ ∀ j, (hj : j < (toPPs L.procs).length) → j ≠ i → ((toPPs L.procs)[j]).phase = 14 → ((toPPs L.procs)[j]).node = (v : Int) → ((toPPs L.procs)[j]).ticket ≠ q'.ticket)
    (hold : ∀ j, (hj : j < (toPPs L.procs).length) → j ≠ i → ((toPPs L.procs)[j]).phase = 14 → ((toPPs L.procs)[j]).node = (v : Int) → ((toPPs L.procs)[j]).ticket < manyH 7 (-1) (L'.hist v) ∧ takenH (L'.hist v) ((toPPs L.procs)[j]).ticket = false) : TkOk L' := by
  refine ⟨fun u h1 hu hf => ?_, fun j hj h => ?_, fun j k hj hk a b d f => ?_⟩
  · rw [hp]
    by_cases e : u = v
    · subst e
      exact ⟨hput, hget, htk⟩
    · have es := hother u e
      rw [es] at hf ⊢
      have a := ht.at' u h1 (by omega) hf
      have hne : ∀ k t : Nat, ¬ (((toPPs L.procs)[i]).phase = (k : Int) ∧ ((toPPs L.procs)[i]).node = (u : Int) ∧ ((toPPs L.procs)[i]).ticket = (t : Int)) := by
        intro k t z
        have := z.2.1
        omega
      refine ⟨fun t x => ?_, fun t x => ?_, a.tk⟩
      · rcases a.put t x with y | y | y
        · exact Or.inl y
        · exact Or.inr (Or.inl y)
        · exact Or.inr (Or.inr (y.set hi (hne 13 t)))
      · rcases a.get t x with y | y
        · exact Or.inl y
        · exact Or.inr (y.set hi (hne 14 t))
  · have key : ∀ (l : List PP) (hj : j < l.length), l = (toPPs L.procs).set i q' → (l[j]).phase = 14 → (l[j]).ticket < manyH 7 (-1) (L'.hist (l[j]).node.toNat) ∧ takenH (L'.hist (l[j]).node.toNat) (l[j]).ticket = false := by
      intro l hj e h
      subst e
      rcases set_get hj with ⟨_, e⟩ | ⟨hji, hj0, e⟩
      · rw [e] at h ⊢
        rw [hn, Int.toNat_natCast]
        exact ⟨(h14 h).1, (h14 h).2.1⟩
      · rw [e] at h ⊢
        have g := ht.g14 j hj0 h
        by_cases ev : ((toPPs L.procs)[j]).node.toNat = v
        · have hnn : ((toPPs L.procs)[j]).node = (v : Int) := by omega
          rw [ev]
          exact hold j hj0 hji h hnn
        · rw [hother _ ev]
          exact g
    exact key _ hj hp h
  · have key : ∀ (l : List PP) (hj : j < l.length) (hk : k < l.length), l = (toPPs L.procs).set i q' → (l[j]).phase = 14 → (l[k]).phase = 14 → (l[j]).node = (l[k]).node → (l[j]).ticket = (l[k]).ticket → j = k := by
      intro l hj hk e a b d f
      subst e
      rcases set_get hj with ⟨ej, e⟩ | ⟨hji, hj0, e⟩
      · rcases set_get hk with ⟨ek, e'⟩ | ⟨hki, hk0, e'⟩
        · rw [ej, ek]
        · rw [e] at a d f
          rw [e'] at b d f
          exact absurd f.symm ((h14 a).2.2 k hk0 hki b (by rw [← d, hn]))
      · rcases set_get hk with ⟨ek, e'⟩ | ⟨hki, hk0, e'⟩
        · rw [e] at a d f
          rw [e'] at b d f
          exact absurd f ((h14 b).2.2 j hj0 hji a (by rw [d, hn]))
        · rw [e] at a d f
          rw [e'] at b d f
          exact ht.gun j k hj0 hk0 a b d f
    exact key _ hj hk hp a b d f

theorem Here.tk12 (h : Here c L P i v p n) (ck : CK c L P) (hc : c.kind = 1) (draw : Int) (e12 : p.phase = 12) (ht : TkOk L) : TkOk (lstep L i draw) := by
  have hi := h.hi
  have hv := h.vN
  have hil : i < (toPPs L.procs).length := by rw [toPPs_len]; exact hi
  have hpi : (toPPs L.procs)[i] = toPP p := by rw [toPPs_at _ _ hi, h.ep]
  have hat : ((toPPs L.procs)[i]).node = (v : Int) := by rw [hpi]; exact h.at'
  have hf := h.isLeaf (by omega) (by omega)
  have a := ht.at' v h.v1 hv hf
  have hcq := ck.ci.cq i hi
  rw [h.ep] at hcq
  have hkp := hcq.kp
  have hqk := h.q.kind
  have hk3 : p.kind < 3 := Int.not_le.1 fun x => by have := hkp.chg x; omega
  have e3 : ∀ (q : Pr) (ev : Ev), toPPs (((L.setP i (incPr p)).hap v nilV ev nilV).setP i q).procs = (toPPs L.procs).set i (toPP q) := by
    intro q ev
    rw [toPPs_setP]
    show (toPPs (L.setP i (incPr p)).procs).set i _ = _
    rw [toPPs_setP, List.set_set]
  have e4 : ∀ (q : Pr) (ev : Ev) (u : Nat), (((L.setP i (incPr p)).hap v nilV ev nilV).setP i q).hist u = if u = v then (ev, nilV) :: L.hist v else L.hist u := by
    intro q ev u
    exact hist_hap (L.setP i (incPr p)) v u nilV ev nilV hv
  have e5 : ∀ (q : Pr) (ev : Ev), (((L.setP i (incPr p)).hap v nilV ev nilV).setP i q).past.length = L.past.length := by
    intro q ev
    exact hap_len (L.setP i (incPr p)) v nilV ev nilV
  have nohold : ∀ k t : Nat, k = 13 ∨ k = 14 → ¬ (((toPPs L.procs)[i]).phase = (k : Int) ∧ ((toPPs L.procs)[i]).node = (v : Int) ∧ ((toPPs L.procs)[i]).ticket = (t : Int)) := by
    intro k t hk z
    rw [hpi] at z
    have : p.phase = (k : Int) := z.1
    omega
  have tk6 : ∀ t, takenH ((⟨6, 0, 0, []⟩, nilV) :: L.hist v) t = takenH (L.hist v) t := fun t => by simp [takenH, manyH]
  have it6 : ∀ t, itemH ((⟨6, 0, 0, []⟩, nilV) :: L.hist v) t = itemH (L.hist v) t := fun t => by unfold itemH; rw [tk6]; simp [fromH, laidH]
  have tk7 : ∀ t, takenH ((⟨7, 0, 0, []⟩, nilV) :: L.hist v) t = takenH (L.hist v) t := fun t => by simp [takenH, manyH]
  have it7 : ∀ t, itemH ((⟨7, 0, 0, []⟩, nilV) :: L.hist v) t = itemH (L.hist v) t := fun t => by unfold itemH; rw [tk7]; simp [fromH, laidH]
  have pu6 : putsH ((⟨6, 0, 0, []⟩, nilV) :: L.hist v) = putsH (L.hist v) + 1 := by unfold putsH; simp [fromH, manyH]; omega
  have pu7 : putsH ((⟨7, 0, 0, []⟩, nilV) :: L.hist v) = putsH (L.hist v) := by unfold putsH; simp [fromH, manyH]
  have ge6 : manyH 7 (-1) ((⟨6, 0, 0, []⟩, nilV) :: L.hist v) = manyH 7 (-1) (L.hist v) := by simp [manyH]
  have ge7 : manyH 7 (-1) ((⟨7, 0, 0, []⟩, nilV) :: L.hist v) = manyH 7 (-1) (L.hist v) + 1 := by simp [manyH]; omega
  have pu0 : 0 ≤ putsH (L.hist v) := by
    have := (h.nr.leaf hf).2.2.2.len hc
    omega
  have old : ∀ j, (hj : j < (toPPs L.procs).length) → ((toPPs L.procs)[j]).phase = 14 → ((toPPs L.procs)[j]).node = (v : Int) → ((toPPs L.procs)[j]).ticket < manyH 7 (-1) (L.hist v) ∧ takenH (L.hist v) ((toPPs L.procs)[j]).ticket = false := by
    intro j hj h14 hn
    have := ht.g14 j hj h14
    rw [hn, Int.toNat_natCast] at this
    exact this
  rw [h.lat draw, h.lget]
  simp only
  rw [if_neg (by omega), if_neg (by omega), if_neg (by omega), if_neg (by omega), if_pos e12]
  have hk12 : p.kind = 1 ∨ p.kind = 2 := by omega
  rw [if_neg (show ¬ (incPr p).kind = 0 by show ¬ p.kind = 0; omega)]
  rcases hk12 with k | k
  · rw [if_pos (show (incPr p).kind = 1 from k)]
    generalize hL' : ((L.setP i (incPr p)).hap v nilV ⟨6, 0, 0, []⟩ nilV).setP i { incPr p with ticket := putsH (L.hist v), phase := 13 } = L'
    have hp : toPPs L'.procs = (toPPs L.procs).set i (toPP { incPr p with ticket := putsH (L.hist v), phase := 13 }) := by rw [← hL']; exact e3 _ _
    have hh : ∀ u, L'.hist u = if u = v then (⟨6, 0, 0, []⟩, nilV) :: L.hist v else L.hist u := by intro u; rw [← hL']; exact e4 _ _ u
    have hl : L'.past.length = L.past.length := by rw [← hL']; exact e5 _ _
    have hv' : L'.hist v = (⟨6, 0, 0, []⟩, nilV) :: L.hist v := by rw [hh, if_pos rfl]
    refine tk_hap ht hil hp hl (fun u hu => by rw [hh, if_neg hu]) hat h.at' h.v1 (by rw [hv']; simp [formH, hf]) hf hv ?_ ?_ ?_ (fun x => absurd x (by show ¬ (13 : Int) = 14; decide)) ?_
    · intro t htp
      rw [hv', pu6] at htp
      rw [hv', it6, tk6]
      by_cases e : (t : Int) = putsH (L.hist v)
      · exact Or.inr (Or.inr (holdK.new hil ⟨rfl, h.at', e.symm⟩))
      · rcases a.put t (by omega) with x | x | x
        · exact Or.inl x
        · exact Or.inr (Or.inl x)
        · exact Or.inr (Or.inr (x.set hil (nohold 13 t (Or.inl rfl))))
    · intro t htg
      rw [hv', ge6] at htg
      rw [hv', tk6]
      rcases a.get t htg with x | x
      · exact Or.inl x
      · exact Or.inr (x.set hil (nohold 14 t (Or.inr rfl)))
    · intro t x
      rw [hv', tk6] at x
      rw [hv', ge6]
      exact a.tk t x
    · intro j hj _ h14 hn
      rw [hv', ge6, tk6]
      exact old j hj h14 hn
  · rw [if_neg (show ¬ (incPr p).kind = 1 by show ¬ p.kind = 1; omega)]
    generalize hL' : ((L.setP i (incPr p)).hap v nilV ⟨7, 0, 0, []⟩ nilV).setP i { incPr p with ticket := ((manyH 7 (-1) (L.hist v) : Nat) : Int), phase := 14 } = L'
    have hp : toPPs L'.procs = (toPPs L.procs).set i (toPP { incPr p with ticket := ((manyH 7 (-1) (L.hist v) : Nat) : Int), phase := 14 }) := by rw [← hL']; exact e3 _ _
    have hh : ∀ u, L'.hist u = if u = v then (⟨7, 0, 0, []⟩, nilV) :: L.hist v else L.hist u := by intro u; rw [← hL']; exact e4 _ _ u
    have hl : L'.past.length = L.past.length := by rw [← hL']; exact e5 _ _
    have hv' : L'.hist v = (⟨7, 0, 0, []⟩, nilV) :: L.hist v := by rw [hh, if_pos rfl]
    have ntk : takenH (L.hist v) ((manyH 7 (-1) (L.hist v) : Nat) : Int) = false := by
      cases hb : takenH (L.hist v) ((manyH 7 (-1) (L.hist v) : Nat) : Int) with
      | false => rfl
      | true => have := a.tk _ hb; omega
    refine tk_hap ht hil hp hl (fun u hu => by rw [hh, if_neg hu]) hat h.at' h.v1 (by rw [hv']; simp [formH, hf]) hf hv ?_ ?_ ?_ ?_ ?_
    · intro t htp
      rw [hv', pu7] at htp
      rw [hv', it7, tk7]
      rcases a.put t htp with x | x | x
      · exact Or.inl x
      · exact Or.inr (Or.inl x)
      · exact Or.inr (Or.inr (x.set hil (nohold 13 t (Or.inl rfl))))
    · intro t htg
      rw [hv', ge7] at htg
      rw [hv', tk7]
      by_cases e : t = manyH 7 (-1) (L.hist v)
      · exact Or.inr (holdK.new hil ⟨rfl, h.at', by rw [e]; rfl⟩)
      · rcases a.get t (by omega) with x | x
        · exact Or.inl x
        · exact Or.inr (x.set hil (nohold 14 t (Or.inr rfl)))
    · intro t x
      rw [hv', tk7] at x
      rw [hv', ge7]
      have := a.tk t x
      omega
    · intro _
      refine ⟨?_, ?_, fun j hj hji h14 hn => ?_⟩
      · show ((manyH 7 (-1) (L.hist v) : Nat) : Int) < _
        rw [hv', ge7]
        push_cast
        omega
      · show takenH (L'.hist v) ((manyH 7 (-1) (L.hist v) : Nat) : Int) = false
        rw [hv', tk7]
        exact ntk
      · show _ ≠ ((manyH 7 (-1) (L.hist v) : Nat) : Int)
        have := (old j hj h14 hn).1
        omega
    · intro j hj _ h14 hn
      rw [hv', ge7, tk7]
      have := old j hj h14 hn
      exact ⟨by push_cast; omega, this.2⟩
end

end Go.Proofs.Ytjnmpejcegmkhab

namespace Go.Proofs.Ytjnmpejcegmkhab
open Go.RowKit

theorem tk_same {L L' : Lay} (ht : TkOk L) (hp : toPPs L'.procs = toPPs L.procs) (hl : L'.past.length = L.past.length) (hh : ∀ u, L'.hist u = L.hist u) : TkOk L' := by
  refine ⟨fun u h1 hu hf => ?_, ?_, ?_⟩
  · rw [hp, hh]
    rw [hh] at hf
    exact ht.at' u h1 (by omega) hf
  · rw [hp]
    intro j hj h
    rw [hh]
    exact ht.g14 j hj h
  · rw [hp]
    exact ht.gun

theorem taken8 (l : Hist) (t y : Int) (u : Int) : takenH ((⟨8, t, y, []⟩, nilV) :: l) u = takenH l u := by simp [takenH, manyH]
theorem item8 {l : Hist} {t : Nat} {y : Int} (h1 : takenH l t = false) (h2 : itemH l t = none) (u : Nat) : itemH ((⟨8, t, y, []⟩, nilV) :: l) u = if u = t then some y else itemH l u := by
  by_cases e : u = t
  · subst e
    rw [if_pos rfl]
    have hlow : ¬ ((u : Int) < ((fromH l).1.items.length : Int)) := by
      intro hlt
      unfold itemH at h2
      rw [if_neg (by rw [h1]; simp), if_pos hlt] at h2
      simp at h2
    unfold itemH
    rw [taken8, if_neg (by rw [h1]; simp)]
    rw [show fromH ((⟨8, u, y, []⟩, nilV) :: l) = fromH l from by simp [fromH], if_neg hlow]
    simp [laidH]
  · rw [if_neg e]
    unfold itemH
    rw [taken8]
    have : ¬ ((t : Int) = (u : Int)) := by omega
    simp [fromH, laidH, this]
theorem taken9 (l : Hist) (t u : Nat) : takenH ((⟨9, t, 0, []⟩, nilV) :: l) u = (decide (u = t) || takenH l u) := by
  unfold takenH
  by_cases e : u = t
  · subst e; simp [manyH]; omega
  · have : ¬ ((t : Int) = (u : Int)) := by omega
    have h2 : ¬ ((u : Int) < 0) := by omega
    simp [manyH, e, this, h2]
theorem item9 (l : Hist) (t u : Nat) : itemH ((⟨9, t, 0, []⟩, nilV) :: l) u = if u = t then none else itemH l u := by
  unfold itemH
  rw [taken9]
  by_cases e : u = t
  · simp [e]
  · simp [e, fromH, laidH]

section
variable {c : Conf} {L : Lay} {P : PLay} {i v : Nat} {p : Pr} {n : PN}

theorem tk_stay (hi : i < L.procs.length) (he : (L.procs[i]).2 = p) (ht : TkOk L) : TkOk (L.setP i (incPr p)) := by
  refine tk_same ht ?_ rfl (fun _ => rfl)
  rw [toPPs_setP]
  have : toPP (incPr p) = (toPPs L.procs)[i]'(by rw [toPPs_len]; exact hi) := by rw [toPPs_at _ _ hi, he]; rfl
  rw [this]
  exact List.set_getElem_self _

theorem Here.tk13 (h : Here c L P i v p n) (draw : Int) (e13 : p.phase = 13) (ht : TkOk L) : TkOk (lstep L i draw) := by
  have hi := h.hi
  have hv := h.vN
  have hil : i < (toPPs L.procs).length := by rw [toPPs_len]; exact hi
  have hpi : (toPPs L.procs)[i] = toPP p := by rw [toPPs_at _ _ hi, h.ep]
  have hat : ((toPPs L.procs)[i]).node = (v : Int) := by rw [hpi]; exact h.at'
  have hf := h.isLeaf (by omega) (by omega)
  have a := ht.at' v h.v1 hv hf
  rw [h.lat draw, h.lget]
  simp only
  rw [if_neg (by omega), if_neg (by omega), if_neg (by omega), if_neg (by omega), if_neg (by omega), if_pos e13]
  split
  · obtain ⟨_, htp⟩ := h.q.tick.2.2 e13
    rw [h.toNat] at htp
    have h0 := h.rel.tk0 i hi (by rw [h.ep]; exact e13)
    rw [h.ep, h.toNat] at h0
    obtain ⟨t0, et⟩ : ∃ t : Nat, p.ticket = (t : Int) := ⟨p.ticket.toNat, by have := h.q.tick.1; omega⟩
    rw [et] at h0 htp
    have hti : ((toPPs L.procs)[i]).ticket = (t0 : Int) := by rw [hpi]; exact et
    have hph : ((toPPs L.procs)[i]).phase = 13 := by rw [hpi]; exact e13
    generalize hL' : ((L.setP i (incPr p)).hap v nilV ⟨8, (incPr p).ticket, (incPr p).oval, []⟩ nilV).setP i { incPr p with phase := 19 } = L'
    have hp : toPPs L'.procs = (toPPs L.procs).set i (toPP { incPr p with phase := 19 }) := by
      rw [← hL', toPPs_setP]
      show (toPPs (L.setP i (incPr p)).procs).set i _ = _
      rw [toPPs_setP, List.set_set]
    have hh : ∀ u, L'.hist u = if u = v then (⟨8, (t0 : Int), p.oval, []⟩, nilV) :: L.hist v else L.hist u := by
      intro u
      rw [← hL', ← et]
      exact hist_hap (L.setP i (incPr p)) v u nilV _ nilV hv
    have hl : L'.past.length = L.past.length := by rw [← hL']; exact hap_len (L.setP i (incPr p)) v nilV _ nilV
    have hv' : L'.hist v = (⟨8, (t0 : Int), p.oval, []⟩, nilV) :: L.hist v := by rw [hh, if_pos rfl]
    have pu : putsH ((⟨8, (t0 : Int), p.oval, []⟩, nilV) :: L.hist v) = putsH (L.hist v) := by unfold putsH; simp [fromH, manyH]
    have ge : manyH 7 (-1) ((⟨8, (t0 : Int), p.oval, []⟩, nilV) :: L.hist v) = manyH 7 (-1) (L.hist v) := by simp [manyH]
    refine tk_hap ht hil hp hl (fun u hu => by rw [hh, if_neg hu]) hat h.at' h.v1 (by rw [hv']; simp [formH, hf]) hf hv ?_ ?_ ?_ (fun x => absurd x (by show ¬ (19 : Int) = 14; decide)) ?_
    · intro t htp'
      rw [hv', pu] at htp'
      rw [hv', item8 h0.1 h0.2, taken8]
      by_cases e : t = t0
      · left
        rw [if_pos e]
        simp
      · rw [if_neg e]
        rcases a.put t htp' with x | x | x
        · exact Or.inl x
        · exact Or.inr (Or.inl x)
        · exact Or.inr (Or.inr (x.set hil (fun z => by have := z.2.2; omega)))
    · intro t htg
      rw [hv', ge] at htg
      rw [hv', taken8]
      rcases a.get t htg with x | x
      · exact Or.inl x
      · exact Or.inr (x.set hil (fun z => by have := z.1; omega))
    · intro t x
      rw [hv', taken8] at x
      rw [hv', ge]
      exact a.tk t x
    · intro j hj _ h14 hn
      rw [hv', ge, taken8]
      have := ht.g14 j hj h14
      rw [hn, Int.toNat_natCast] at this
      exact this
  · exact tk_stay hi h.ep ht

theorem Here.tk14 (h : Here c L P i v p n) (draw : Int) (e14 : p.phase = 14) (ht : TkOk L) : TkOk (lstep L i draw) := by
  have hi := h.hi
  have hv := h.vN
  have hil : i < (toPPs L.procs).length := by rw [toPPs_len]; exact hi
  have hpi : (toPPs L.procs)[i] = toPP p := by rw [toPPs_at _ _ hi, h.ep]
  have hat : ((toPPs L.procs)[i]).node = (v : Int) := by rw [hpi]; exact h.at'
  have hf := h.isLeaf (by omega) (by omega)
  have a := ht.at' v h.v1 hv hf
  rw [h.lat draw, h.lget]
  simp only
  rw [if_neg (by omega), if_neg (by omega), if_neg (by omega), if_neg (by omega), if_neg (by omega), if_neg (by omega), if_pos e14]
  split
  · rename_i y hy
    obtain ⟨t0, et⟩ : ∃ t : Nat, p.ticket = (t : Int) := ⟨p.ticket.toNat, by have := h.q.tick.1; omega⟩
    have hti : ((toPPs L.procs)[i]).ticket = (t0 : Int) := by rw [hpi]; exact et
    have hph : ((toPPs L.procs)[i]).phase = 14 := by rw [hpi]; exact e14
    have hg := ht.g14 i hil hph
    rw [hat, Int.toNat_natCast, hti] at hg
    generalize hL' : ((L.setP i (incPr p)).hap v nilV ⟨9, (incPr p).ticket, 0, []⟩ nilV).setP i { incPr p with val := y, phase := 19 } = L'
    have hp : toPPs L'.procs = (toPPs L.procs).set i (toPP { incPr p with val := y, phase := 19 }) := by
      rw [← hL', toPPs_setP]
      show (toPPs (L.setP i (incPr p)).procs).set i _ = _
      rw [toPPs_setP, List.set_set]
    have hh : ∀ u, L'.hist u = if u = v then (⟨9, (t0 : Int), 0, []⟩, nilV) :: L.hist v else L.hist u := by
      intro u
      rw [← hL', ← et]
      exact hist_hap (L.setP i (incPr p)) v u nilV _ nilV hv
    have hl : L'.past.length = L.past.length := by rw [← hL']; exact hap_len (L.setP i (incPr p)) v nilV _ nilV
    have hv' : L'.hist v = (⟨9, (t0 : Int), 0, []⟩, nilV) :: L.hist v := by rw [hh, if_pos rfl]
    have pu : putsH ((⟨9, (t0 : Int), 0, []⟩, nilV) :: L.hist v) = putsH (L.hist v) := by unfold putsH; simp [fromH, manyH]
    have ge : manyH 7 (-1) ((⟨9, (t0 : Int), 0, []⟩, nilV) :: L.hist v) = manyH 7 (-1) (L.hist v) := by simp [manyH]
    refine tk_hap ht hil hp hl (fun u hu => by rw [hh, if_neg hu]) hat h.at' h.v1 (by rw [hv']; simp [formH, hf]) hf hv ?_ ?_ ?_ (fun x => absurd x (by show ¬ (19 : Int) = 14; decide)) ?_
    · intro t htp'
      rw [hv', pu] at htp'
      rw [hv', item9, taken9]
      by_cases e : t = t0
      · right; left
        simp [e]
      · rw [if_neg e]
        rcases a.put t htp' with x | x | x
        · exact Or.inl x
        · exact Or.inr (Or.inl (by simp [x]))
        · exact Or.inr (Or.inr (x.set hil (fun z => by have := z.1; omega)))
    · intro t htg
      rw [hv', ge] at htg
      rw [hv', taken9]
      by_cases e : t = t0
      · left
        simp [e]
      · rcases a.get t htg with x | x
        · exact Or.inl (by simp [x])
        · exact Or.inr (x.set hil (fun z => by have := z.2.2; omega))
    · intro t x
      rw [hv', taken9] at x
      rw [hv', ge]
      by_cases e : t = t0
      · have := hg.1
        omega
      · simp only [e, decide_false, Bool.false_or] at x
        exact a.tk t x
    · intro j hj hji h14 hn
      rw [hv', ge]
      have g := ht.g14 j hj h14
      rw [hn, Int.toNat_natCast] at g
      refine ⟨g.1, ?_⟩
      have hne : ((toPPs L.procs)[j]).ticket ≠ (t0 : Int) := fun e => hji (ht.gun j i hj hil h14 hph (by rw [hn, hat]) (by rw [e, hti]))
      by_cases neg : ((toPPs L.procs)[j]).ticket < 0
      · unfold takenH
        have : ¬ 0 ≤ ((toPPs L.procs)[j]).ticket := by omega
        simp [this]
      · obtain ⟨tj, etj⟩ : ∃ t : Nat, ((toPPs L.procs)[j]).ticket = (t : Int) := ⟨((toPPs L.procs)[j]).ticket.toNat, by omega⟩
        rw [etj] at g hne ⊢
        rw [taken9]
        have : tj ≠ t0 := fun e => hne (by rw [e])
        simp [this, g.2]
  · exact tk_stay hi h.ep ht

/-- A leaf that has just become one. -/
theorem tk_fresh (c : Conf) (hc : c.kind = 1) (its : List Int) (iv : Value) (l : Hist) (ps : List PP) (u : Nat) : TkAt ((⟨2, its.length, 0, its⟩, iv) :: l) ps u := by
  have hi := leaf_items c its.length its iv l (fun _ => rfl) (fun a => by omega)
  have e9 : ∀ t, takenH ((⟨2, its.length, 0, its⟩, iv) :: l) t = false := by intro t; unfold takenH; simp [manyH]
  refine ⟨fun t ht => ?_, fun t ht => ?_, fun t ht => ?_⟩
  · left
    have hl : t < its.length := by
      have : putsH ((⟨2, its.length, 0, its⟩, iv) :: l) = its.length := by unfold putsH; simp [fromH, manyH]
      omega
    rw [hi.it t]
    simp [List.getD_eq_getElem?_getD, hl]
  · simp [manyH] at ht
  · rw [e9] at ht
    exact absurd ht (by decide)

theorem tk_change {L' : Lay} (hv1 : 1 ≤ v) (hc : c.kind = 1) (ht : TkOk L) (hi : i < (toPPs L.procs).length) (h17 : ((toPPs L.procs)[i]).phase = 17) (hq : Quiet L.procs i v) {q' : PP} (hq' : q'.phase ≠ 14) (hp : toPPs L'.procs = (toPPs L.procs).set i q') (hl : L'.past.length = L.past.length)
    (hother : ∀ u, u ≠ v → u ≠ 2 * v → u ≠ 2 * v + 1 → L'.hist u = L.hist u)
    (hnew : ∀ u, u = v ∨ u = 2 * v ∨ u = 2 * v + 1 → formH (L'.hist u) = 2 → ∃ its iv l, L'.hist u = (⟨2, its.length, 0, its⟩, iv) :: l) : TkOk L' := by
  refine ⟨fun u h1 hu hf => ?_, fun j hj h => ?_, fun j k hj hk a b d f => ?_⟩
  · rw [hp]
    by_cases e : u = v ∨ u = 2 * v ∨ u = 2 * v + 1
    · obtain ⟨its, iv, l, el⟩ := hnew u e hf
      rw [el]
      exact tk_fresh c hc its iv l _ u
    · have es := hother u (fun x => e (Or.inl x)) (fun x => e (Or.inr (Or.inl x))) (fun x => e (Or.inr (Or.inr x)))
      rw [es] at hf ⊢
      have a := ht.at' u h1 (by omega) hf
      refine ⟨fun t x => ?_, fun t x => ?_, a.tk⟩
      · rcases a.put t x with y | y | y
        · exact Or.inl y
        · exact Or.inr (Or.inl y)
        · exact Or.inr (Or.inr (y.set hi (fun z => by have := z.1; omega)))
      · rcases a.get t x with y | y
        · exact Or.inl y
        · exact Or.inr (y.set hi (fun z => by have := z.1; omega))
  · have key : ∀ (l : List PP) (hj : j < l.length), l = (toPPs L.procs).set i q' → (l[j]).phase = 14 → (l[j]).ticket < manyH 7 (-1) (L'.hist (l[j]).node.toNat) ∧ takenH (L'.hist (l[j]).node.toNat) (l[j]).ticket = false := by
      intro l hj e h
      subst e
      rcases set_get hj with ⟨_, e⟩ | ⟨hji, hj0, e⟩
      · rw [e] at h
        exact absurd h hq'
      · rw [e] at h ⊢
        have g := ht.g14 j hj0 h
        have hj1 : j < L.procs.length := by rw [toPPs_len] at hj0; exact hj0
        have ej : (toPPs L.procs)[j] = toPP (L.procs[j]).2 := toPPs_at _ _ hj1 hj0
        have h14 : (L.procs[j]).2.phase = 14 := by rw [ej] at h; exact h
        have k1 := hq.at' j hj1 hji (by omega)
        have k2 := hq.kid j hj1 (by omega)
        have nd : ((toPPs L.procs)[j]).node = (L.procs[j]).2.node := by rw [ej]; rfl
        by_cases z : (L.procs[j]).2.node < 0
        · have en : ((toPPs L.procs)[j]).node.toNat = 0 := by omega
          rw [en] at g ⊢
          rw [hother 0 (by omega) (by omega) (by omega)]
          exact g
        · rw [hother _ (fun x => by have := k1 (by omega); omega) (fun x => by omega) (fun x => by omega)]
          exact g
    exact key _ hj hp h
  · have key : ∀ (l : List PP) (hj : j < l.length) (hk : k < l.length), l = (toPPs L.procs).set i q' → (l[j]).phase = 14 → (l[k]).phase = 14 → (l[j]).node = (l[k]).node → (l[j]).ticket = (l[k]).ticket → j = k := by
      intro l hj hk e a b d f
      subst e
      rcases set_get hj with ⟨ej, e⟩ | ⟨hji, hj0, e⟩
      · rw [e] at a
        exact absurd a hq'
      · rcases set_get hk with ⟨ek, e'⟩ | ⟨hki, hk0, e'⟩
        · rw [e'] at b
          exact absurd b hq'
        · rw [e] at a d f
          rw [e'] at b d f
          exact ht.gun j k hj0 hk0 a b d f
    exact key _ hj hk hp a b d f

theorem Here.tk17 (h : Here c L P i v p n) (ck : CK c L P) (hc : c.kind = 1) (draw : Int) (e17 : p.phase = 17) (ht : TkOk L) : TkOk (lstep L i draw) := by
  have hi := h.hi
  have hv := h.vN
  have h1v := h.v1
  have hil : i < (toPPs L.procs).length := by rw [toPPs_len]; exact hi
  have hpi : (toPPs L.procs)[i] = toPP p := by rw [toPPs_at _ _ hi, h.ep]
  have h17 : ((toPPs L.procs)[i]).phase = 17 := by rw [hpi]; exact e17
  have tg := h.target17 ck e17
  have hkid := tg.kid
  have hcL := h.rel.cL
  have up14 : ∀ q : Pr, (toPP (upPr q)).phase ≠ 14 := by
    intro q
    show (upPr q).phase ≠ 14
    unfold upPr
    simp only
    split <;> decide
  rw [h.lat draw, h.lget]
  simp only
  rw [if_neg (by omega), if_neg (by omega), if_neg (by omega), if_neg (by omega), if_neg (by omega), if_neg (by omega), if_neg (by omega), if_pos e17]
  split
  · have hN : unfN (L.setP i (incPr p)) v = ((itemsH (L.hist v)).length : Int) := by
      unfold unfN
      show (if L.c.kind = 0 then putsH (L.hist v) else ((itemsH (L.hist v)).length : Int)) = _
      rw [hcL, if_neg (by omega)]
    obtain ⟨l1, l2⟩ := evT_len (itemsH (L.hist v)) (itemsH (L.hist v)).length (Nat.le_refl _)
    have n1 : (((itemsH (L.hist v)).length : Int) + 1) / 2 = ((evT (itemsH (L.hist v)) (itemsH (L.hist v)).length).length : Int) := by omega
    have n2 : ((itemsH (L.hist v)).length : Int) / 2 = ((odT (itemsH (L.hist v)) (itemsH (L.hist v)).length).length : Int) := by omega
    refine tk_change h1v hc ht hil h17 tg.q (q' := toPP (upPr { incPr p with val := 1 })) (up14 _) ?_ (by simp) (fun u a b d => ?_) (fun u hu hf => ?_)
    · rw [toPPs_setP]
      show (toPPs (L.setP i (incPr p)).procs).set i _ = _
      rw [toPPs_setP, List.set_set]
    · show ((L.setP i (incPr p)).unfolded v nilV nilV nilV nilV nilV).hist u = L.hist u
      unfold Lay.unfolded
      rw [hap_hist _ _ _ _ _ _ (by simp; omega) d, hap_hist _ _ _ _ _ _ (by simp; omega) b, hap_hist _ _ _ _ _ _ (by exact hv) a]
      rfl
    · have hf' : formH (((L.setP i (incPr p)).unfolded v nilV nilV nilV nilV nilV).hist u) = 2 := hf
      show ∃ its iv l, ((L.setP i (incPr p)).unfolded v nilV nilV nilV nilV nilV).hist u = (⟨2, its.length, 0, its⟩, iv) :: l
      unfold Lay.unfolded at hf' ⊢
      rw [hN, n1, n2] at hf' ⊢
      rcases hu with e | e | e
      · subst e
        exfalso
        rw [hap_hist _ _ _ _ _ _ (by simp; omega) (by omega), hap_hist _ _ _ _ _ _ (by simp; omega) (by omega), hist_hap _ _ _ _ _ _ (by exact hv), if_pos rfl] at hf'
        simp [formH] at hf'
      · subst e
        refine ⟨evT (itemsH (L.hist v)) (itemsH (L.hist v)).length, nilV, L.hist (2 * v), ?_⟩
        rw [hap_hist _ _ _ _ _ _ (by simp; omega) (by omega), hist_hap _ _ _ _ _ _ (by simp; omega), if_pos rfl, hap_hist _ _ _ _ _ _ (by exact hv) (by omega)]
        rfl
      · subst e
        refine ⟨odT (itemsH (L.hist v)) (itemsH (L.hist v)).length, nilV, L.hist (2 * v + 1), ?_⟩
        rw [hist_hap _ _ _ _ _ _ (by simp; omega), if_pos rfl, hap_hist _ _ _ _ _ _ (by simp; omega) (by omega), hap_hist _ _ _ _ _ _ (by exact hv) (by omega)]
        rfl
  · split
    · refine tk_else ht hil (by omega) (q' := toPP (upPr { incPr p with val := 4 })) (up14 _) ?_ rfl (fun u => SameTk.refl _)
      rw [toPPs_setP, toPPs_setP, List.set_set]
    · have hN : foldN (L.setP i (incPr p)) v = ((alt (itemsH (L.hist (2 * v))) (itemsH (L.hist (2 * v + 1)))).length : Int) := by
        unfold foldN
        show (if L.c.kind = 0 then putsH (L.hist (2 * v)) + putsH (L.hist (2 * v + 1)) else ((alt (itemsH (L.hist (2 * v))) (itemsH (L.hist (2 * v + 1)))).length : Int)) = _
        rw [hcL, if_neg (by omega)]
      refine tk_change h1v hc ht hil h17 tg.q (q' := toPP (upPr { incPr p with val := 1 })) (up14 _) ?_ (by simp) (fun u a b d => ?_) (fun u hu hf => ?_)
      · rw [toPPs_setP]
        show (toPPs (L.setP i (incPr p)).procs).set i _ = _
        rw [toPPs_setP, List.set_set]
      · show ((L.setP i (incPr p)).folded v nilV nilV nilV nilV).hist u = L.hist u
        unfold Lay.folded
        rw [hap_hist _ _ _ _ _ _ (by simp; omega) a, hap_hist _ _ _ _ _ _ (by simp; omega) d, hap_hist _ _ _ _ _ _ (by show 2 * v < L.past.length; omega) b]
        rfl
      · have hf' : formH (((L.setP i (incPr p)).folded v nilV nilV nilV nilV).hist u) = 2 := hf
        show ∃ its iv l, ((L.setP i (incPr p)).folded v nilV nilV nilV nilV).hist u = (⟨2, its.length, 0, its⟩, iv) :: l
        unfold Lay.folded at hf' ⊢
        rw [hN] at hf' ⊢
        rcases hu with e | e | e
        · subst e
          refine ⟨alt (itemsH (L.hist (2 * u))) (itemsH (L.hist (2 * u + 1))), nilV, L.hist u, ?_⟩
          rw [hist_hap _ _ _ _ _ _ (by simp; omega), if_pos rfl, hap_hist _ _ _ _ _ _ (by simp; omega) (by omega), hap_hist _ _ _ _ _ _ (by show 2 * u < L.past.length; omega) (by omega)]
          rfl
        · subst e
          exfalso
          rw [hap_hist _ _ _ _ _ _ (by simp; omega) (by omega), hap_hist _ _ _ _ _ _ (by simp; omega) (by omega), hist_hap _ _ _ _ _ _ (by show 2 * v < L.past.length; omega), if_pos rfl] at hf'
          simp [formH] at hf'
        · subst e
          exfalso
          rw [hap_hist _ _ _ _ _ _ (by simp; omega) (by omega), hist_hap _ _ _ _ _ _ (by simp; omega), if_pos rfl] at hf'
          simp [formH] at hf'

theorem Here.tk (h : Here c L P i v p n) (ck : CK c L P) (hc : c.kind = 1) (draw : Int) (ht : TkOk L) : TkOk (lstep L i draw) := by
  by_cases e12 : p.phase = 12
  · exact h.tk12 ck hc draw e12 ht
  · by_cases e13 : p.phase = 13
    · exact h.tk13 draw e13 ht
    · by_cases e14 : p.phase = 14
      · exact h.tk14 draw e14 ht
      · by_cases e17 : p.phase = 17
        · exact h.tk17 ck hc draw e17 ht
        · exact h.tkA ck draw ⟨e12, e13, e14, e17⟩ ht
end

theorem TkOk.step {c : Conf} {L : Lay} {P : PLay} (h : CRel c L P) (hc : c.kind = 1) (x : TkOk L) {i : Nat} (hi : i < L.procs.length) (hl : (L.procs[i]).2.phase ≠ 20) (draw : Int) : TkOk (lstep L i draw) := by
  obtain ⟨v, n, hh⟩ := h.rel.here hi hl
  exact hh.tk h.ck hc draw x

theorem TkOk.spawn {L : Lay} (x : TkOk L) (o : Op3) : TkOk { L with procs := L.procs ++ [(0, newPr o)] } := by
  have hph : (newPr o).phase = 0 ∨ (newPr o).phase = 15 := by
    unfold newPr
    simp only
    split
    · exact Or.inr rfl
    · exact Or.inl rfl
  have e : toPPs ({ L with procs := L.procs ++ [(0, newPr o)] } : Lay).procs = toPPs L.procs ++ [toPP (newPr o)] := by simp [toPPs]
  have e14 : (toPP (newPr o)).phase ≠ 14 := by show (newPr o).phase ≠ 14; omega
  generalize toPP (newPr o) = q at *
  have get : ∀ j, (hj : j < (toPPs L.procs ++ [q]).length) → ((toPPs L.procs ++ [q])[j]).phase = 14 → ∃ hj0 : j < (toPPs L.procs).length, (toPPs L.procs ++ [q])[j] = (toPPs L.procs)[j] := by
    intro j hj h14
    by_cases z : j < (toPPs L.procs).length
    · exact ⟨z, List.getElem_append_left z⟩
    · have hj' := hj
      simp only [List.length_append, List.length_cons, List.length_nil] at hj'
      have ez : j = (toPPs L.procs).length := by omega
      subst ez
      simp only [List.getElem_concat_length] at h14
      exact absurd h14 e14
  have hk : ∀ k u t, holdK k (toPPs L.procs) u t → holdK k (toPPs L.procs ++ [q]) u t := by
    rintro k u t ⟨j, hj, h1⟩
    refine ⟨j, by simp; omega, ?_⟩
    rw [List.getElem_append_left hj]
    exact h1
  refine ⟨fun u h1 hu hf => ?_, ?_, ?_⟩
  · rw [e]
    have a := x.at' u h1 hu hf
    refine ⟨fun t ht => ?_, fun t ht => ?_, a.tk⟩
    · rcases a.put t ht with y | y | y
      · exact Or.inl y
      · exact Or.inr (Or.inl y)
      · exact Or.inr (Or.inr (hk _ _ _ y))
    · rcases a.get t ht with y | y
      · exact Or.inl y
      · exact Or.inr (hk _ _ _ y)
  · rw [e]
    intro j hj h14
    obtain ⟨hj0, ej⟩ := get j hj h14
    rw [ej] at h14 ⊢
    exact x.g14 j hj0 h14
  · rw [e]
    intro j k hj hk a b d f
    obtain ⟨hj0, ej⟩ := get j hj a
    obtain ⟨hk0, ek⟩ := get k hk b
    rw [ej] at a d f
    rw [ek] at b d f
    exact x.gun j k hj0 hk0 a b d f

theorem TkOk.new (c : Conf) : TkOk (newLay c) := by
  have e : toPPs (newLay c).procs = [] := rfl
  refine ⟨fun u h1 hu hf => ?_, ?_, ?_⟩
  · rw [(newLay_new c).hist u h1 hu] at hf ⊢
    unfold newHist at hf ⊢
    split at hf
    · simp [formH] at hf
    · split at hf
      · rename_i h1 h2
        rw [if_neg h1, if_pos h2]
        refine ⟨fun t ht => ?_, fun t ht => ?_, fun t ht => ?_⟩
        · simp [putsH, fromH, manyH] at ht
          omega
        · simp [manyH] at ht
        · simp [takenH, manyH] at ht
      · simp [formH] at hf
  · rw [e]
    intro j hj
    exact absurd hj (Nat.not_lt_zero _)
  · rw [e]
    intro j k hj
    exact absurd hj (Nat.not_lt_zero _)

end Go.Proofs.Ytjnmpejcegmkhab

namespace Go.Proofs.Ytjnmpejcegmkhab
open Go.RowKit

def RmAt (c : Conf) (u : Nat) (l : Hist) : Prop := ∀ t : Nat, (itemH l t ≠ none ∨ takenH l t = true) → roomyH c u l t = true ∧ (t : Int) < putsH l
def RmOk (c : Conf) (L : Lay) : Prop := ∀ u, 1 ≤ u → u < L.past.length → formH (L.hist u) = 2 → RmAt c u (L.hist u)

theorem RmAt.same {c : Conf} {u : Nat} {l l' : Hist} (h : RmAt c u l) (s : SameTk l l') : RmAt c u l' := by
  intro t ht
  rw [s.item, s.taken] at ht
  have := h t ht
  rw [s.puts]
  refine ⟨?_, this.2⟩
  unfold roomyH at this ⊢
  rw [s.taken]
  exact this.1

theorem room_pos {c : Conf} (hm : mayC c = true) (u : Nat) : 1 ≤ roomOf c u := by
  have hs : 1 ≤ c.slots := by simp [mayC] at hm; omega
  unfold roomOf
  have : 0 < (2 : Int) ^ (c.depth.toNat - Nat.log2 u) := Int.pow_pos (by decide)
  have h1 := Int.mul_le_mul hs (show (1 : Int) ≤ 2 ^ (c.depth.toNat - Nat.log2 u) by omega) (by decide) (by omega)
  simpa using h1

section
variable {c : Conf} {L : Lay} {P : PLay} {i v : Nat} {p : Pr} {n : PN}

/-- A leaf where nobody stores or fetches. -/
theorem quiet_room {u : Nat} (ht : TkOk L) (hr : RmOk c L) (h1 : 1 ≤ u) (hu : u < L.past.length) (hf : formH (L.hist u) = 2) (h0 : ∀ t, ¬ holdK 13 (toPPs L.procs) u t) (hp0 : 0 ≤ putsH (L.hist u)) (hp : 0 ≤ roomOf c u) : putsH (L.hist u) - manyH 7 (-1) (L.hist u) ≤ roomOf c u := by
  by_cases e : putsH (L.hist u) ≤ manyH 7 (-1) (L.hist u)
  · omega
  · obtain ⟨t, et⟩ : ∃ t : Nat, putsH (L.hist u) = (t : Int) + 1 := ⟨(putsH (L.hist u) - 1).toNat, by omega⟩
    have a := ht.at' u h1 hu hf
    have b := hr u h1 hu hf
    have hi : itemH (L.hist u) t ≠ none := by
      rcases a.put t (by omega) with x | x | x
      · exact x
      · have := a.tk t x
        omega
      · exact absurd x (h0 t)
    have := (b t (Or.inl hi)).1
    unfold roomyH at this
    simp only [Bool.or_eq_true, decide_eq_true_eq] at this
    rcases this with x | x
    · omega
    · have h2 : 0 ≤ (t : Int) - roomOf c u := by
        unfold takenH at x
        simp only [Bool.and_eq_true, decide_eq_true_eq] at x
        exact x.1
      obtain ⟨k, ek⟩ : ∃ k : Nat, (t : Int) - roomOf c u = (k : Int) := ⟨((t : Int) - roomOf c u).toNat, by omega⟩
      rw [ek] at x
      have := a.tk k x
      omega

theorem rm_fresh (c : Conf) (hc : c.kind = 1) (its : List Int) (iv : Value) (l : Hist) (u : Nat) (hr : (its.length : Int) ≤ roomOf c u) : RmAt c u ((⟨2, its.length, 0, its⟩, iv) :: l) := by
  have hi := leaf_items c its.length its iv l (fun _ => rfl) (fun a => by omega)
  have e9 : ∀ t, takenH ((⟨2, its.length, 0, its⟩, iv) :: l) t = false := by intro t; unfold takenH; simp [manyH]
  have ep : putsH ((⟨2, its.length, 0, its⟩, iv) :: l) = its.length := by unfold putsH; simp [fromH, manyH]
  intro t ht
  have hl : t < its.length := by
    rcases ht with x | x
    · rw [hi.it t] at x
      by_cases e : t < its.length
      · exact e
      · rw [List.getD_eq_getElem?_getD, List.getElem?_eq_none (by simp; omega)] at x
        simp at x
    · rw [e9] at x
      exact absurd x (by decide)
  rw [ep]
  refine ⟨?_, by omega⟩
  unfold roomyH
  simp only [Bool.or_eq_true, decide_eq_true_eq]
  left
  omega

theorem roomyH_mono {u : Nat} {l l' : Hist} (h : ∀ t : Nat, takenH l t = true → takenH l' t = true) {t : Int} (hr : roomyH c u l t = true) : roomyH c u l' t = true := by
  unfold roomyH at hr ⊢
  simp only [Bool.or_eq_true, decide_eq_true_eq] at hr ⊢
  rcases hr with x | x
  · exact Or.inl x
  · right
    have h2 : 0 ≤ t - roomOf c u := by
      unfold takenH at x
      simp only [Bool.and_eq_true, decide_eq_true_eq] at x
      exact x.1
    obtain ⟨k, ek⟩ : ∃ k : Nat, t - roomOf c u = (k : Int) := ⟨(t - roomOf c u).toNat, by omega⟩
    rw [ek] at x ⊢
    exact h k x

theorem rm_hap {L' : Lay} (hr : RmOk c L) (hl : L'.past.length = L.past.length) (hother : ∀ u, u ≠ v → L'.hist u = L.hist u) (hat : RmAt c v (L'.hist v)) : RmOk c L' := by
  intro u h1 hu hf
  by_cases e : u = v
  · subst e
    exact hat
  · rw [hother u e] at hf ⊢
    exact hr u h1 (by omega) hf

theorem room_kid {v : Nat} (h1 : 1 ≤ v) (hv : v < 32) (hk : 2 * v + 1 < 2 ^ (c.depth.toNat + 1)) : roomOf c v = 2 * roomOf c (2 * v) ∧ roomOf c v = 2 * roomOf c (2 * v + 1) := by
  have hl := log2_kid ⟨v, hv⟩ h1
  simp only at hl
  have hd : Nat.log2 (2 * v + 1) < c.depth.toNat + 1 := (Nat.log2_lt (by omega)).2 hk
  have e : c.depth.toNat - Nat.log2 v = (c.depth.toNat - (Nat.log2 v + 1)) + 1 := by omega
  unfold roomOf
  rw [hl.1, hl.2, e, Int.pow_succ]
  have : c.slots * (2 ^ (c.depth.toNat - (Nat.log2 v + 1)) * 2) = 2 * (c.slots * 2 ^ (c.depth.toNat - (Nat.log2 v + 1))) := by
    rw [Int.mul_comm (2 ^ (c.depth.toNat - (Nat.log2 v + 1)) : Int) 2, ← Int.mul_assoc, Int.mul_comm c.slots 2, Int.mul_assoc]
  exact ⟨this, this⟩

theorem Here.rm (h : Here c L P i v p n) (ck : CK c L P) (hc : c.kind = 1) (draw : Int) (ht : TkOk L) (hr : RmOk c L) : RmOk c (lstep L i draw) := by
  have hi := h.hi
  have hv := h.vN
  have h1v := h.v1
  by_cases hne : p.phase ≠ 12 ∧ p.phase ≠ 13 ∧ p.phase ≠ 14 ∧ p.phase ≠ 17
  · obtain ⟨p', hw⟩ := h.went ck draw
    have hs := h.sameTk draw hne
    intro u h1 hu hf
    exact (hr u h1 (by rw [← hw.past]; exact hu) (by rw [← (hs u).form]; exact hf)).same (hs u)
  · have e4 : ∀ (q : Pr) (ev : Ev) (u : Nat), (((L.setP i (incPr p)).hap v nilV ev nilV).setP i q).hist u = if u = v then (ev, nilV) :: L.hist v else L.hist u := by
      intro q ev u
      exact hist_hap (L.setP i (incPr p)) v u nilV ev nilV hv
    have happ : ∀ (q : Pr) (ev : Ev), RmAt c v ((ev, nilV) :: L.hist v) → RmOk c (((L.setP i (incPr p)).hap v nilV ev nilV).setP i q) := by
      intro q ev hat
      refine rm_hap (v := v) hr (hap_len (L.setP i (incPr p)) v nilV ev nilV) (fun u hu => by rw [e4, if_neg hu]) ?_
      rw [e4, if_pos rfl]
      exact hat
    rw [h.lat draw, h.lget]
    simp only
    by_cases e12 : p.phase = 12
    · rw [if_neg (by omega), if_neg (by omega), if_neg (by omega), if_neg (by omega), if_pos e12]
      have hf := h.isLeaf (by omega) (by omega)
      have a := hr v h1v hv hf
      have at6 : RmAt c v ((⟨6, 0, 0, []⟩, nilV) :: L.hist v) := by
        have tk6 : ∀ t, takenH ((⟨6, 0, 0, []⟩, nilV) :: L.hist v) t = takenH (L.hist v) t := fun t => by simp [takenH, manyH]
        have it6 : ∀ t, itemH ((⟨6, 0, 0, []⟩, nilV) :: L.hist v) t = itemH (L.hist v) t := fun t => by unfold itemH; rw [tk6]; simp [fromH, laidH]
        have pu6 : putsH ((⟨6, 0, 0, []⟩, nilV) :: L.hist v) = putsH (L.hist v) + 1 := by unfold putsH; simp [fromH, manyH]; omega
        intro t x
        rw [it6, tk6] at x
        have := a t x
        rw [pu6]
        exact ⟨roomyH_mono (fun t y => by rw [tk6]; exact y) this.1, by omega⟩
      have at7 : RmAt c v ((⟨7, 0, 0, []⟩, nilV) :: L.hist v) := by
        have tk7 : ∀ t, takenH ((⟨7, 0, 0, []⟩, nilV) :: L.hist v) t = takenH (L.hist v) t := fun t => by simp [takenH, manyH]
        have it7 : ∀ t, itemH ((⟨7, 0, 0, []⟩, nilV) :: L.hist v) t = itemH (L.hist v) t := fun t => by unfold itemH; rw [tk7]; simp [fromH, laidH]
        have pu7 : putsH ((⟨7, 0, 0, []⟩, nilV) :: L.hist v) = putsH (L.hist v) := by unfold putsH; simp [fromH, manyH]
        intro t x
        rw [it7, tk7] at x
        have := a t x
        rw [pu7]
        exact ⟨roomyH_mono (fun t y => by rw [tk7]; exact y) this.1, by omega⟩
      split
      · exact happ _ _ at6
      · split
        · exact happ _ _ at6
        · exact happ _ _ at7
    · by_cases e13 : p.phase = 13
      · rw [if_neg (by omega), if_neg (by omega), if_neg (by omega), if_neg (by omega), if_neg (by omega), if_pos e13]
        split
        · rename_i hro
          have hf := h.isLeaf (by omega) (by omega)
          have a := hr v h1v hv hf
          obtain ⟨_, htp⟩ := h.q.tick.2.2 e13
          rw [h.toNat] at htp
          have h0 := h.rel.tk0 i hi (by rw [h.ep]; exact e13)
          rw [h.ep, h.toNat] at h0
          obtain ⟨t0, et⟩ : ∃ t : Nat, p.ticket = (t : Int) := ⟨p.ticket.toNat, by have := h.q.tick.1; omega⟩
          have hro' : roomyH L.c v (L.hist v) p.ticket = true := hro
          rw [et] at h0 htp hro'
          rw [h.rel.cL] at hro'
          refine happ _ _ ?_
          show RmAt c v ((⟨8, p.ticket, p.oval, []⟩, nilV) :: L.hist v)
          rw [et]
          have pu : putsH ((⟨8, (t0 : Int), p.oval, []⟩, nilV) :: L.hist v) = putsH (L.hist v) := by unfold putsH; simp [fromH, manyH]
          have mono : ∀ {t : Int}, roomyH c v (L.hist v) t = true → roomyH c v ((⟨8, (t0 : Int), p.oval, []⟩, nilV) :: L.hist v) t = true := fun y => roomyH_mono (fun t y => by rw [taken8]; exact y) y
          intro t x
          rw [pu]
          rw [item8 h0.1 h0.2, taken8] at x
          by_cases e : t = t0
          · subst e
            exact ⟨mono hro', htp⟩
          · rw [if_neg e] at x
            exact ⟨mono (a t x).1, (a t x).2⟩
        · exact hr
      · by_cases e14 : p.phase = 14
        · rw [if_neg (by omega), if_neg (by omega), if_neg (by omega), if_neg (by omega), if_neg (by omega), if_neg (by omega), if_pos e14]
          split
          · rename_i y hy
            have hf := h.isLeaf (by omega) (by omega)
            have a := hr v h1v hv hf
            obtain ⟨t0, et⟩ : ∃ t : Nat, p.ticket = (t : Int) := ⟨p.ticket.toNat, by have := h.q.tick.1; omega⟩
            have hy' : itemH (L.hist v) p.ticket = some y := hy
            rw [et] at hy'
            refine happ _ _ ?_
            show RmAt c v ((⟨9, p.ticket, 0, []⟩, nilV) :: L.hist v)
            rw [et]
            have pu : putsH ((⟨9, (t0 : Int), 0, []⟩, nilV) :: L.hist v) = putsH (L.hist v) := by unfold putsH; simp [fromH, manyH]
            have mono : ∀ {t : Int}, roomyH c v (L.hist v) t = true → roomyH c v ((⟨9, (t0 : Int), 0, []⟩, nilV) :: L.hist v) t = true := fun y => roomyH_mono (fun t y => by rw [taken9]; simp [y]) y
            intro t x
            rw [pu]
            rw [item9, taken9] at x
            have hx : itemH (L.hist v) t ≠ none ∨ takenH (L.hist v) t = true := by
              by_cases e : t = t0
              · subst e
                left
                rw [hy']
                simp
              · rw [if_neg e] at x
                simpa [e] using x
            exact ⟨mono (a t hx).1, (a t hx).2⟩
          · exact hr
        · have e17 : p.phase = 17 := by
            by_cases e : p.phase = 17
            · exact e
            · exact absurd ⟨e12, e13, e14, e⟩ hne
          rw [if_neg (by omega), if_neg (by omega), if_neg (by omega), if_neg (by omega), if_neg (by omega), if_neg (by omega), if_neg (by omega), if_pos e17]
          have tg := h.target17 ck e17
          have hkid := tg.kid
          have hcL := h.rel.cL
          have hm := h.rel.may
          have hcq := ck.ci.cq i hi
          rw [h.ep] at hcq
          obtain ⟨rk0, rk1⟩ := room_kid h1v h.v32 (by rw [← h.rel.len]; exact hkid)
          have qr : ∀ u, (u = v ∨ u = 2 * v ∨ u = 2 * v + 1) → formH (L.hist u) = 2 → ((itemsH (L.hist u)).length : Int) ≤ roomOf c u := by
            intro u hu hf
            have hb := h.bal_pool ck tg hc u hu hf
            have hpu := tg.puts u (by omega) hf
            have hrp := room_pos hm u
            have := quiet_room ht hr (by omega) (by omega) hf (fun t hh => by
              obtain ⟨j, hj, z1, z2, _⟩ := hh
              have hj1 : j < L.procs.length := by rw [toPPs_len] at hj; exact hj
              have ej : (toPPs L.procs)[j] = toPP (L.procs[j]).2 := toPPs_at _ _ hj1 hj
              rw [ej] at z1 z2
              have w1 : (L.procs[j]).2.phase = 13 := z1
              have w2 : (L.procs[j]).2.node = (u : Int) := z2
              have hji : j ≠ i := fun e => by
                subst e
                rw [h.ep] at w1
                omega
              have k1 := tg.q.at' j hj1 hji (by omega)
              have k2 := tg.q.kid j hj1 (by omega)
              rcases hu with e | e | e
              · have := k1 (by omega); omega
              · omega
              · omega) hpu.1 (by omega)
            unfold balH at hb
            rw [if_pos hf] at hb
            omega
          split
          · rename_i hk4
            have hf : formH (L.hist v) = 2 := by rw [tg.form, if_neg (by have : p.kind = 4 := hk4; omega)]
            have hN : unfN (L.setP i (incPr p)) v = ((itemsH (L.hist v)).length : Int) := by
              unfold unfN
              show (if L.c.kind = 0 then putsH (L.hist v) else ((itemsH (L.hist v)).length : Int)) = _
              rw [hcL, if_neg (by omega)]
            have hq := qr v (Or.inl rfl) hf
            obtain ⟨l1, l2⟩ := evT_len (itemsH (L.hist v)) (itemsH (L.hist v)).length (Nat.le_refl _)
            have n1 : (((itemsH (L.hist v)).length : Int) + 1) / 2 = ((evT (itemsH (L.hist v)) (itemsH (L.hist v)).length).length : Int) := by omega
            have n2 : ((itemsH (L.hist v)).length : Int) / 2 = ((odT (itemsH (L.hist v)) (itemsH (L.hist v)).length).length : Int) := by omega
            intro u h1 hu hfu
            have hfu' : formH (((L.setP i (incPr p)).unfolded v nilV nilV nilV nilV nilV).hist u) = 2 := hfu
            have hu' : u < L.past.length := by simpa using hu
            show RmAt c u (((L.setP i (incPr p)).unfolded v nilV nilV nilV nilV nilV).hist u)
            unfold Lay.unfolded at hfu' ⊢
            rw [hN, n1, n2] at hfu' ⊢
            by_cases ev : u = v
            · subst ev
              exfalso
              rw [hap_hist _ _ _ _ _ _ (by simp; omega) (by omega), hap_hist _ _ _ _ _ _ (by simp; omega) (by omega), hist_hap _ _ _ _ _ _ (by exact hv), if_pos rfl] at hfu'
              simp [formH] at hfu'
            · by_cases e0 : u = 2 * v
              · subst e0
                rw [hap_hist _ _ _ _ _ _ (by simp; omega) (by omega), hist_hap _ _ _ _ _ _ (by simp; omega), if_pos rfl, hap_hist _ _ _ _ _ _ (by exact hv) (by omega)]
                exact rm_fresh c hc _ _ _ _ (by omega)
              · by_cases e1 : u = 2 * v + 1
                · subst e1
                  rw [hist_hap _ _ _ _ _ _ (by simp; omega), if_pos rfl, hap_hist _ _ _ _ _ _ (by simp; omega) (by omega), hap_hist _ _ _ _ _ _ (by exact hv) (by omega)]
                  exact rm_fresh c hc _ _ _ _ (by omega)
                · rw [hap_hist _ _ _ _ _ _ (by simp; omega) e1, hap_hist _ _ _ _ _ _ (by simp; omega) e0, hap_hist _ _ _ _ _ _ (by exact hv) ev] at hfu' ⊢
                  exact hr u h1 hu' hfu'
          · split
            · exact hr
            · rename_i hk4 hno
              have k3 : p.kind = 3 := by have := hcq.kinds; have : ¬ p.kind = 4 := hk4; have := tg.k3; omega
              have hf : formH (L.hist v) = 1 := by rw [tg.form, if_pos k3]
              obtain ⟨kk1, kk2, kk3⟩ := h.rel.kids v h1v hv hf
              have r0 := (h.rel.nodes (2 * v) (by omega) (by omega)).form
              have r1 := (h.rel.nodes (2 * v + 1) (by omega) hkid).form
              have f0 : formH (L.hist (2 * v)) = 2 := by omega
              have f1 : formH (L.hist (2 * v + 1)) = 2 := by omega
              have q0 := qr _ (Or.inr (Or.inl rfl)) f0
              have q1 := qr _ (Or.inr (Or.inr rfl)) f1
              have hN : foldN (L.setP i (incPr p)) v = ((alt (itemsH (L.hist (2 * v))) (itemsH (L.hist (2 * v + 1)))).length : Int) := by
                unfold foldN
                show (if L.c.kind = 0 then putsH (L.hist (2 * v)) + putsH (L.hist (2 * v + 1)) else ((alt (itemsH (L.hist (2 * v))) (itemsH (L.hist (2 * v + 1)))).length : Int)) = _
                rw [hcL, if_neg (by omega)]
              have hal := altF_le ((itemsH (L.hist (2 * v))).length + (itemsH (L.hist (2 * v + 1))).length) (itemsH (L.hist (2 * v))) (itemsH (L.hist (2 * v + 1)))
              have hle : ((alt (itemsH (L.hist (2 * v))) (itemsH (L.hist (2 * v + 1)))).length : Int) ≤ roomOf c v := by
                unfold alt
                omega
              intro u h1 hu hfu
              have hfu' : formH (((L.setP i (incPr p)).folded v nilV nilV nilV nilV).hist u) = 2 := hfu
              have hu' : u < L.past.length := by simpa using hu
              show RmAt c u (((L.setP i (incPr p)).folded v nilV nilV nilV nilV).hist u)
              unfold Lay.folded at hfu' ⊢
              rw [hN] at hfu' ⊢
              by_cases ev : u = v
              · subst ev
                rw [hist_hap _ _ _ _ _ _ (by simp; omega), if_pos rfl, hap_hist _ _ _ _ _ _ (by simp; omega) (by omega), hap_hist _ _ _ _ _ _ (by show 2 * u < L.past.length; omega) (by omega)]
                exact rm_fresh c hc _ _ _ _ hle
              · by_cases e0 : u = 2 * v
                · subst e0
                  exfalso
                  rw [hap_hist _ _ _ _ _ _ (by simp; omega) (by omega), hap_hist _ _ _ _ _ _ (by simp; omega) (by omega), hist_hap _ _ _ _ _ _ (by show 2 * v < L.past.length; omega), if_pos rfl] at hfu'
                  simp [formH] at hfu'
                · by_cases e1 : u = 2 * v + 1
                  · subst e1
                    exfalso
                    rw [hap_hist _ _ _ _ _ _ (by simp; omega) (by omega), hist_hap _ _ _ _ _ _ (by simp; omega), if_pos rfl] at hfu'
                    simp [formH] at hfu'
                  · rw [hap_hist _ _ _ _ _ _ (by simp; omega) ev, hap_hist _ _ _ _ _ _ (by simp; omega) e1, hap_hist _ _ _ _ _ _ (by show 2 * v < L.past.length; omega) e0] at hfu' ⊢
                    exact hr u h1 hu' hfu'
end

theorem RmOk.step {c : Conf} {L : Lay} {P : PLay} (h : CRel c L P) (hc : c.kind = 1) (x : TkOk L) (r : RmOk c L) {i : Nat} (hi : i < L.procs.length) (hl : (L.procs[i]).2.phase ≠ 20) (draw : Int) : RmOk c (lstep L i draw) := by
  obtain ⟨v, n, hh⟩ := h.rel.here hi hl
  exact hh.rm h.ck hc draw x r
theorem RmOk.new (c : Conf) : RmOk c (newLay c) := by
  intro u h1 hu hf t ht
  rw [(newLay_new c).hist u h1 hu] at hf ht
  exfalso
  unfold newHist at hf ht
  split at hf
  · simp [formH] at hf
  · split at hf
    · rename_i a b
      rw [if_neg a, if_pos b] at ht
      have e9 : takenH [(⟨2, 0, 0, []⟩, Value.slice none 0 0)] (t : Int) = false := by unfold takenH; simp [manyH]
      rw [e9] at ht
      simp [itemH, e9, fromH, laidH] at ht
    · simp [formH] at hf

end Go.Proofs.Ytjnmpejcegmkhab

namespace Go.Proofs.Ytjnmpejcegmkhab
open Go.RowKit

def undB (u w : Nat) : Bool := decide (climb 6 w u = u)
def subS (L : Lay) (u : Nat) : Int := sumN (fun w => if undB u w = true then balH (L.hist w) else 0) L.past.length

theorem und_facts : ∀ u : Fin 32, ∀ w : Fin 32, 1 ≤ u.1 → (undB u.1 w.1 = (decide (w.1 = u.1) || (undB (2 * u.1) w.1 || undB (2 * u.1 + 1) w.1))) ∧ ¬ (undB (2 * u.1) w.1 = true ∧ undB (2 * u.1 + 1) w.1 = true) ∧ undB (2 * u.1) u.1 = false ∧ undB (2 * u.1 + 1) u.1 = false := by decide +kernel
theorem und_one : ∀ w : Fin 32, 1 ≤ w.1 → undB 1 w.1 = true := by decide +kernel
theorem und_half : ∀ u : Fin 32, ∀ w : Fin 32, 1 ≤ u.1 → w.1 ≠ u.1 → undB u.1 w.1 = true → undB u.1 (w.1 / 2) = true ∧ 2 ≤ w.1 := by decide +kernel
theorem rank_kid : ∀ u : Fin 32, 1 ≤ u.1 → rank (2 * u.1) = rank u.1 ∧ rank (2 * u.1 + 1) = rank u.1 + 2 ^ Nat.log2 u.1 ∧ Nat.log2 (2 * u.1) = Nat.log2 u.1 + 1 ∧ Nat.log2 (2 * u.1 + 1) = Nat.log2 u.1 + 1 ∧ rank 1 = 0 ∧ Nat.log2 1 = 0 := by decide +kernel

theorem sumN_add (f g : Nat → Int) : ∀ n, sumN (fun w => f w + g w) n = sumN f n + sumN g n
  | 0 => rfl
  | n + 1 => by simp only [sumN]; rw [sumN_add f g n]; omega
theorem sumN_sub (f g : Nat → Int) : ∀ n, sumN (fun w => f w - g w) n = sumN f n - sumN g n
  | 0 => rfl
  | n + 1 => by simp only [sumN]; rw [sumN_sub f g n]; omega
theorem sumN_at (x : Int) (u : Nat) : ∀ n, u < n → sumN (fun w => if w = u then x else 0) n = x
  | 0, h => by omega
  | n + 1, h => by
    simp only [sumN]
    by_cases e : n = u
    · subst e
      rw [if_pos rfl, sumN_zero _ _ fun w hw => by rw [if_neg (by omega)]]
      omega
    · rw [if_neg e, sumN_at x u n (by omega)]
      omega

section
variable {c : Conf} {L : Lay} {P : PLay}

theorem sub_split (hN : L.past.length ≤ 32) {u : Nat} (h1 : 1 ≤ u) (hu : 2 * u + 1 < L.past.length) : subS L u = balH (L.hist u) + (subS L (2 * u) + subS L (2 * u + 1)) ∧ sumN (fun w => side u w * balH (L.hist w)) L.past.length = subS L (2 * u) - subS L (2 * u + 1) := by
  unfold subS
  refine ⟨?_, ?_⟩
  · rw [← sumN_add, ← sumN_at (balH (L.hist u)) u L.past.length (by omega), ← sumN_add]
    refine sumN_congr _ _ _ fun w hw => ?_
    obtain ⟨a, b, d, e⟩ := und_facts ⟨u, by omega⟩ ⟨w, by omega⟩ h1
    simp only at a b d e
    rw [a]
    by_cases ew : w = u
    · subst ew
      simp [d, e]
    · simp only [ew, decide_false, Bool.false_or, if_false]
      cases x : undB (2 * u) w <;> cases y : undB (2 * u + 1) w
      · simp
      · simp
      · simp
      · exact absurd ⟨x, y⟩ b
  · rw [← sumN_sub]
    refine sumN_congr _ _ _ fun w hw => ?_
    obtain ⟨_, b, _, _⟩ := und_facts ⟨u, by omega⟩ ⟨w, by omega⟩ h1
    simp only at b
    have es : side u w = if undB (2 * u) w = true then 1 else if undB (2 * u + 1) w = true then -1 else 0 := by
      unfold side undB
      simp only [decide_eq_true_eq]
    rw [es]
    cases x : undB (2 * u) w <;> cases y : undB (2 * u + 1) w
    · simp
    · simp
    · simp
    · exact absurd ⟨x, y⟩ b

theorem sub_leaf (h : CRel c L P) {u : Nat} (h1 : 1 ≤ u) (hu : u < L.past.length) (hf : formH (L.hist u) = 2) : subS L u = balH (L.hist u) := by
  have hN := h.rel.lenle
  have key : ∀ w, w < L.past.length → w ≠ u → undB u w = true → formH (L.hist w) = 3 := by
    intro w
    induction w using Nat.strongRecOn with
    | _ w ih =>
      intro hw hne hun
      obtain ⟨a, b⟩ := und_half ⟨u, by omega⟩ ⟨w, by omega⟩ h1 hne hun
      simp only at a b
      by_cases e3 : formH (L.hist w) = 3
      · exact e3
      · have hp := h.ck.ci.par w b hw e3
        by_cases eu : w / 2 = u
        · rw [eu] at hp
          omega
        · have := ih (w / 2) (by omega) (by omega) eu a
          omega
  unfold subS
  rw [← sumN_at (balH (L.hist u)) u L.past.length hu]
  refine sumN_congr _ _ _ fun w hw => ?_
  by_cases ew : w = u
  · subst ew
    have : undB w w = true := by
      have := (und_facts ⟨w, by omega⟩ ⟨w, by omega⟩ h1).1
      simp only at this
      rw [this]
      simp
    rw [if_pos this, if_pos rfl]
  · rw [if_neg ew]
    cases x : undB u w
    · simp
    · simp only [if_true]
      unfold balH
      rw [key w hw ew x]
      simp

/-- Nobody is between the root's door and a leaf. -/
def Still (L : Lay) : Prop := ∀ i, (hi : i < L.procs.length) → arrived (toPP (L.procs[i]).2) ∨ ((L.procs[i]).2.node = 1 ∧ ((L.procs[i]).2.phase = 0 ∨ (L.procs[i]).2.phase = 15))

theorem side_one : ∀ u : Fin 32, 1 ≤ u.1 → side u.1 1 = 0 := by decide +kernel

theorem still_even (h : CRel c L P) (hs : Still L) {u : Nat} (h1 : 1 ≤ u) (hu : u < L.past.length) (hf : formH (L.hist u) = 1) : subS L (2 * u) - subS L (2 * u + 1) = togH (L.hist u) ∧ subS L u = subS L (2 * u) + subS L (2 * u + 1) := by
  have hN := h.rel.lenle
  have hk := (h.rel.kids u h1 hu hf).1
  have e := h.ck.ci.even u h1 hu hf
  obtain ⟨a, b⟩ := sub_split (L := L) (by omega) h1 hk
  unfold evenS at e
  have ez : sumP (eP L.procs u) L.procs = 0 := by
    refine sumP_zero _ _ fun i hi => ?_
    have hm : metB (L.procs[i]).2 = false := by
      unfold metB
      have : ¬ (L.procs[i]).2.phase = 6 ∧ ¬ (L.procs[i]).2.phase = 7 := by
        rcases hs i hi with x | x
        · unfold arrived at x
          have x' : (L.procs[i]).2.phase = 13 ∨ (L.procs[i]).2.phase = 14 ∨ (L.procs[i]).2.phase = 19 ∨ (L.procs[i]).2.phase = 20 := x
          omega
        · omega
      simp [this]
    unfold eP wcP
    rw [hm]
    simp only [Bool.false_eq_true, false_and, and_false, if_false, Int.add_zero]
    rcases hs i hi with x | ⟨x, y⟩
    · have x' : (L.procs[i]).2.phase = 13 ∨ (L.procs[i]).2.phase = 14 ∨ (L.procs[i]).2.phase = 19 ∨ (L.procs[i]).2.phase = 20 := x
      have : tokP L.procs (L.procs[i]).2 = 0 := by unfold tokP; rw [if_neg (by omega)]
      rw [this]
      simp
    · rw [x]
      have := side_one ⟨u, by omega⟩ h1
      simp only at this
      show side u 1 * _ = 0
      rw [this]
      simp
  rw [ez, b] at e
  have hb : balH (L.hist u) = 0 := by unfold balH; rw [hf]; simp
  exact ⟨by omega, by omega⟩

/-- What lies in each part of a still tree is its share. -/
theorem still_share (h : CRel c L P) (hs : Still L) : ∀ u, 1 ≤ u → u < L.past.length → formH (L.hist u) ≠ 3 → (subS L u - 1) * 2 ^ Nat.log2 u < subS L 1 - rank u ∧ subS L 1 - rank u ≤ subS L u * 2 ^ Nat.log2 u := by
  have hN := h.rel.lenle
  intro u
  induction u using Nat.strongRecOn with
  | _ u ih =>
    intro h1 hu hf
    by_cases e1 : u = 1
    · subst e1
      obtain ⟨_, _, _, _, r1, l1⟩ := rank_kid ⟨1, by omega⟩ (by show 1 ≤ 1; omega)
      rw [r1, l1]
      simp
      omega
    · have hq := h.ck.ci.par u (by omega) hu hf
      obtain ⟨ia, ib⟩ := ih (u / 2) (by omega) (by omega) (by omega) (by omega)
      obtain ⟨sa, sb⟩ := still_even h hs (u := u / 2) (by omega) (by omega) hq
      obtain ⟨k1, k2, k3, k4, _, _⟩ := rank_kid ⟨u / 2, by omega⟩ (by show 1 ≤ u / 2; omega)
      simp only at k1 k2 k3 k4
      have ht : togH (L.hist (u / 2)) = 0 ∨ togH (L.hist (u / 2)) = 1 := by unfold togH; omega
      have hl := log2_32 ⟨u / 2, by omega⟩
      simp only at hl
      generalize subS L 1 = T at *
      generalize togH (L.hist (u / 2)) = tg at *
      by_cases ev : u % 2 = 0
      · have eu : u = 2 * (u / 2) := by omega
        rw [eu, k1, k3, ← eu]
        have es : subS L (2 * (u / 2)) = subS L u := by rw [← eu]
        rw [es] at sa sb
        generalize subS L (u / 2) = sq at *
        generalize subS L u = su at *
        generalize subS L (2 * (u / 2) + 1) = s1 at *
        generalize rank (u / 2) = rk at *
        generalize Nat.log2 (u / 2) = d at *
        have : d = 0 ∨ d = 1 ∨ d = 2 ∨ d = 3 ∨ d = 4 := by omega
        rcases this with rfl | rfl | rfl | rfl | rfl <;> simp at ia ib ⊢ <;> omega
      · have eu : u = 2 * (u / 2) + 1 := by omega
        rw [eu, k2, k4, ← eu]
        have es : subS L (2 * (u / 2) + 1) = subS L u := by rw [← eu]
        rw [es] at sa sb
        generalize subS L (u / 2) = sq at *
        generalize subS L u = su at *
        generalize subS L (2 * (u / 2)) = s1 at *
        generalize rank (u / 2) = rk at *
        generalize Nat.log2 (u / 2) = d at *
        have : d = 0 ∨ d = 1 ∨ d = 2 ∨ d = 3 ∨ d = 4 := by omega
        rcases this with rfl | rfl | rfl | rfl | rfl <;> simp at ia ib ⊢ <;> omega

theorem sub_all (h : CRel c L P) : subS L 1 = balS L := by
  have hN := h.rel.lenle
  unfold subS balS
  refine sumN_congr _ _ _ fun w hw => ?_
  by_cases e : w = 0
  · subst e
    have : balH (L.hist 0) = 0 := by unfold balH; rw [h.rel.hist0]; simp
    rw [this]
    simp
  · rw [if_pos (und_one ⟨w, by omega⟩ (by show 1 ≤ w; omega))]

end

end Go.Proofs.Ytjnmpejcegmkhab

namespace Go.Proofs.Ytjnmpejcegmkhab
open Go.RowKit

theorem KSt.at {w : World} {B hb : Nat} {c : Conf} {S : Gh} {P : PLay} (h : KSt w B hb c S P) {W : World} (hw : Below w.heap.size w W) (p : Nat) (hp : p < S.L.procs.length) :
    Calls Try.prog 16 #[.pointer (some ⟨hb, 0, none⟩), I p] W fun e w' => e = .returned (.agg #[I (S.L.procs[p]).2.phase, I (S.L.procs[p]).2.node, I (S.L.procs[p]).2.val]) ∧ Below W.heap.size W w' := by
  have := kat_c (h.rep.below hw) (p : Int)
  rw [h.told p hp] at this
  exact this
theorem KSt.nodes {w : World} {B hb : Nat} {c : Conf} {S : Gh} {P : PLay} (h : KSt w B hb c S P) {W : World} (hw : Below w.heap.size w W) :
    Calls Try.prog 13 #[.pointer (some ⟨P.tb, 0, none⟩)] W fun e w' => ∃ x l, e = .returned x ∧ NodesRep w' W.heap.size x l ∧ l.map (fun y => y.1) = rnodes S.L ∧ Below W.heap.size W w' :=
  (h.rel.rel.agree h.rel.ck.si h.rep.prog).nodes W hw
theorem KSt.shaped {w : World} {B hb : Nat} {c : Conf} {S : Gh} {P : PLay} (h : KSt w B hb c S P) {b : Nat} {x : Value} {l : List (ND × Value × Value)} (hr : NodesRep w b x l) (el : l.map (fun y => y.1) = rnodes S.L) :
    Calls Try.prog 14 #[.pointer (some ⟨hb, 0, none⟩), x] w fun e w' => e = .returned (.bool true) ∧ Below w.heap.size w w' := by
  have hc := h.rep.conf.2.1
  have hcf := h.rel.rel.confs
  have e : P.c.depth = ((c.depth.toNat : Nat) : Int) := by rw [h.rel.rel.cP]; omega
  rw [e] at hc
  exact shaped_c c.depth.toNat hc hr (by rw [el]; exact h.rel.shaped)
theorem KSt.opsAt {w : World} {B hb : Nat} {c : Conf} {S : Gh} {P : PLay} (h : KSt w B hb c S P) : ∃ ao cap, w.cell? ⟨hb, 9, none⟩ = some (.slice ao S.L.procs.length cap) ∧ S.L.procs.length ≤ cap ∧ S.L.procs.length ≤ 256 ∧ cap ≤ maxLen := by
  obtain ⟨_, _, _, ao, cap, c9, q1, q2, q3⟩ := h.rep.conf
  have e : S.ops.length = S.L.procs.length := h.rep.len.trans h.rel.plen
  rw [e] at c9 q1
  exact ⟨ao, cap, c9, q1, h.rel.rel.np, q3⟩

end Go.Proofs.Ytjnmpejcegmkhab

namespace Go.Proofs.Ytjnmpejcegmkhab
open Go.RowKit

end Go.Proofs.Ytjnmpejcegmkhab

namespace Go.Proofs.Ytjnmpejcegmkhab
open Go.RowKit

def liesL (l : List ND) : List Int := l.flatMap fun d => d.items
theorem lies_to {c : Conf} {L : Lay} {P : PLay} (h : CRel c L P) (x : Int) : ∀ k, k ≤ L.past.length → ((liesL (rnodesTo L k)).count x : Int) = sumN (fun w => cntH x (L.hist w)) k
  | 0, _ => by simp [liesL, rnodesTo, sumN]
  | k + 1, hk => by
    have ih := lies_to h x k (by omega)
    rw [rnodesTo_succ]
    unfold liesL at ih ⊢
    rw [List.flatMap_append, List.count_append]
    simp only [sumN]
    push_cast
    rw [ih]
    congr 1
    by_cases e : k = 0 ∨ formH (L.hist k) = 3
    · have f3 : formH (L.hist k) = 3 := by
        rcases e with e | e
        · subst e; exact h.rel.hist0
        · exact e
      rw [if_pos e]
      simp [cntH, f3]
    · rw [if_neg e]
      have hf := (h.rel.nodes k (by omega) (by omega)).form
      have hf2 : formH (L.hist k) = 1 ∨ formH (L.hist k) = 2 := by omega
      rcases hf2 with f | f
      · simp [cntH, f, rnode]
      · simp [cntH, f, rnode]
theorem lies_cnt {c : Conf} {L : Lay} {P : PLay} (h : CRel c L P) (x : Int) : ((liesL (rnodes L)).count x : Int) = cntS x L := lies_to h x _ (Nat.le_refl _)

/-- How many of the first k. -/
def cntTo (f : Pr → Bool) (ps : Prs) : Nat → Nat
  | 0 => 0
  | k + 1 => cntTo f ps k + (if h : k < ps.length then (if f (ps[k]).2 = true then 1 else 0) else 0)
theorem cntTo_sum (f : Pr → Bool) (ps : Prs) : ∀ k, k ≤ ps.length → ((cntTo f ps k : Nat) : Int) = sumP (fun p => if f p = true then 1 else 0) (ps.take k)
  | 0, _ => by simp [cntTo, sumP]
  | k + 1, h => by
    have hlt : k < ps.length := by omega
    have ih := cntTo_sum f ps k (by omega)
    have e : ps.take (k + 1) = ps.take k ++ [ps[k]] := by rw [List.take_add_one, List.getElem?_eq_getElem hlt]; rfl
    rw [e, sumP_one, ← ih]
    simp only [cntTo, dif_pos hlt]
    split <;> simp
theorem cntTo_all (f : Pr → Bool) (ps : Prs) : ((cntTo f ps ps.length : Nat) : Int) = sumP (fun p => if f p = true then 1 else 0) ps := by
  have := cntTo_sum f ps ps.length (Nat.le_refl _)
  rwa [List.take_length] at this

def begF (x : Int) (p : Pr) : Bool := decide (p.kind = 1 ∧ p.oval = x)
def putF (x : Int) (p : Pr) : Bool := decide (p.kind = 1 ∧ p.oval = x ∧ (p.phase = 19 ∨ p.phase = 20))
def gotF (x : Int) (p : Pr) : Bool := decide (p.kind = 2 ∧ (p.phase = 19 ∨ p.phase = 20) ∧ p.val = x)

theorem sumP_mns (f g : Pr → Int) : ∀ ps : Ps, sumP (fun p => f p - g p) ps = sumP f ps - sumP g ps
  | [] => rfl
  | y :: r => by simp only [sumP]; rw [sumP_mns f g r]; omega
theorem sumP_leq (f g : Pr → Int) : ∀ ps : Ps, (∀ i, (hi : i < ps.length) → f (ps[i]).2 ≤ g (ps[i]).2) → sumP f ps ≤ sumP g ps
  | [], _ => Int.le_refl _
  | y :: r, h => by
    have h0 := h 0 (by simp)
    simp only [List.getElem_cons_zero] at h0
    have ih := sumP_leq f g r fun i hi => by
      have := h (i + 1) (by simpa using hi)
      simpa using this
    simp only [sumP]
    omega

/-- No more Gets have a value than Puts of it were begun. -/
theorem got_le {c : Conf} {L : Lay} {P : PLay} (h : CRel c L P) (o : VOk L) (x : Int) : cntTo (gotF x) L.procs L.procs.length ≤ cntTo (begF x) L.procs L.procs.length := by
  have h1 := o.val x
  rw [← lies_cnt h x] at h1
  have h2 := sumP_leq (vP x L.procs) (fun p => (if begF x p = true then 1 else 0) - (if gotF x p = true then 1 else 0)) L.procs fun i hi => by
    have hph := (h.rel.qs i hi).phase
    generalize (L.procs[i]).2 = p at *
    unfold vP begF gotF
    simp only [decide_eq_true_eq]
    by_cases k1 : p.kind = 1
    · rw [if_pos k1, if_neg (show ¬ (p.kind = 2 ∧ _) from fun z => by omega)]
      by_cases e : p.oval = x
      · rw [if_pos (show p.kind = 1 ∧ p.oval = x from ⟨k1, e⟩)]
        split <;> omega
      · rw [if_neg (show ¬ (p.oval = x ∧ _) from fun z => e z.1), if_neg (show ¬ (p.kind = 1 ∧ p.oval = x) from fun z => e z.2)]
        omega
    · rw [if_neg k1, if_neg (show ¬ (p.kind = 1 ∧ p.oval = x) from fun z => k1 z.1)]
      by_cases k2 : p.kind = 2
      · rw [if_pos k2]
        by_cases e : (p.phase = 19 ∨ p.phase = 20) ∧ p.val = x
        · rw [if_pos (Or.inl ⟨by omega, e.2⟩), if_pos ⟨k2, e⟩]
          omega
        · rw [if_neg (show ¬ (p.kind = 2 ∧ _) from fun z => e z.2)]
          split <;> omega
      · rw [if_neg k2, if_neg (show ¬ (p.kind = 2 ∧ _) from fun z => k2 z.1)]
        omega
  rw [sumP_mns, ← cntTo_all, ← cntTo_all, ← h1] at h2
  omega

/-- In a still tree just as many lie there as Puts have ended less Gets that have it. -/
theorem lies_still {c : Conf} {L : Lay} {P : PLay} (h : CRel c L P) (o : VOk L) (hs : ∀ i, (hi : i < L.procs.length) → ¬ ((L.procs[i]).2.phase = 6 ∨ (L.procs[i]).2.phase = 7)) (x : Int) : ((liesL (rnodes L)).count x : Int) = (cntTo (putF x) L.procs L.procs.length : Int) - (cntTo (gotF x) L.procs L.procs.length : Int) := by
  have h1 := o.val x
  rw [← lies_cnt h x] at h1
  rw [h1, cntTo_all, cntTo_all, ← sumP_mns]
  refine sumP_congr _ _ _ fun i hi => ?_
  have hph := (h.rel.qs i hi).phase
  have hm := metB_no (hs i hi)
  generalize (L.procs[i]).2 = p at *
  unfold vP putF gotF
  rw [hm]
  simp only [decide_eq_true_eq]
  by_cases k1 : p.kind = 1
  · rw [if_pos k1, if_neg (show ¬ (p.kind = 2 ∧ _) from fun z => by omega)]
    by_cases e : p.oval = x ∧ (p.phase = 19 ∨ p.phase = 20)
    · rw [if_pos ⟨e.1, Or.inl (by omega)⟩, if_pos ⟨k1, e⟩]
      rfl
    · rw [if_neg (show ¬ (p.kind = 1 ∧ _) from fun z => e z.2), if_neg (fun z => e ⟨z.1, by rcases z.2 with a | a; omega; exact absurd a.1 (by decide)⟩)]
      rfl
  · rw [if_neg k1, if_neg (show ¬ (p.kind = 1 ∧ _) from fun z => k1 z.1)]
    by_cases k2 : p.kind = 2
    · rw [if_pos k2]
      by_cases e : (p.phase = 19 ∨ p.phase = 20) ∧ p.val = x
      · rw [if_pos (Or.inl ⟨by omega, e.2⟩), if_pos ⟨k2, e⟩]
        rfl
      · rw [if_neg (show ¬ (p.kind = 2 ∧ _) from fun z => e z.2), if_neg (fun z => by rcases z with a | a; exact e ⟨by omega, a.2⟩; exact absurd a.1 (by decide))]
        rfl
    · rw [if_neg k2, if_neg (show ¬ (p.kind = 2 ∧ _) from fun z => k2 z.1)]
      rfl

end Go.Proofs.Ytjnmpejcegmkhab

namespace Go.Proofs.Ytjnmpejcegmkhab
open Go.RowKit

/-- Everybody is Done, or waits for what does not come. -/
def FinOk (c : Conf) (L : Lay) : Prop := ∀ j, (hj : j < (toPPs L.procs).length) → ((toPPs L.procs)[j]).phase = 20 ∨
  (((toPPs L.procs)[j]).phase = 13 ∧ roomOf c ((toPPs L.procs)[j]).node.toNat + manyH 7 (-1) (L.hist ((toPPs L.procs)[j]).node.toNat) ≤ ((toPPs L.procs)[j]).ticket) ∨
  (((toPPs L.procs)[j]).phase = 14 ∧ putsH (L.hist ((toPPs L.procs)[j]).node.toNat) ≤ ((toPPs L.procs)[j]).ticket)

theorem fm_len (f : Nat → Option Int) (a b : Nat) : ∀ m, (∀ t, t < m → (f t ≠ none ↔ a ≤ t ∧ t < b)) → (((List.range m).filterMap f).length : Int) = if a ≤ b then (min b m : Int) - (min a m : Int) else 0
  | 0, _ => by simp; intro _; omega
  | m + 1, h => by
    have ih := fm_len f a b m fun t ht => h t (by omega)
    rw [List.range_succ, List.filterMap_append, List.length_append]
    push_cast
    rw [ih]
    have hm := h m (by omega)
    cases e : f m with
    | none =>
      have : ¬ (a ≤ m ∧ m < b) := fun z => (hm.2 z) e
      simp only [List.filterMap_cons, e, List.filterMap_nil, List.length_nil]
      split <;> omega
    | some y =>
      have : a ≤ m ∧ m < b := hm.1 (by rw [e]; simp)
      simp only [List.filterMap_cons, e, List.filterMap_nil, List.length_cons, List.length_nil]
      split <;> omega

section
variable {c : Conf} {L : Lay} {P : PLay}

theorem item_taken {l : Hist} {t : Int} (h : takenH l t = true) : itemH l t = none := by unfold itemH; rw [if_pos (Or.inl h)]

/-- A leaf at which a Get waits is empty, and no Put waits there. -/
theorem fin_get (h : CRel c L P) (ht : TkOk L) (hfin : FinOk c L) {u : Nat} (h1 : 1 ≤ u) (hu : u < L.past.length) (hf : formH (L.hist u) = 2) {t : Nat} (hg : holdK 14 (toPPs L.procs) u t) : itemsH (L.hist u) = [] ∧ ∀ t', ¬ holdK 13 (toPPs L.procs) u t' := by
  have a := ht.at' u h1 hu hf
  obtain ⟨j, hj, j1, j2, j3⟩ := hg
  have g14 := ht.g14 j hj j1
  rw [j2, Int.toNat_natCast, j3] at g14
  have hpt : putsH (L.hist u) ≤ (t : Int) := by
    rcases hfin j hj with x | x | x
    · omega
    · omega
    · have := x.2
      rw [j2, Int.toNat_natCast, j3] at this
      exact this
  have all : ∀ t' : Nat, (t' : Int) < putsH (L.hist u) → takenH (L.hist u) t' = true := by
    intro t' h'
    rcases a.get t' (by omega) with x | x
    · exact x
    · obtain ⟨k, hk, k1, k2, k3⟩ := x
      rcases hfin k hk with y | y | y
      · omega
      · omega
      · have := y.2
        rw [k2, Int.toNat_natCast, k3] at this
        omega
  refine ⟨?_, fun t' hh => ?_⟩
  · unfold itemsH itemsTo
    have : ∀ x ∈ List.range (putsH (L.hist u)).toNat, itemH (L.hist u) ((x : Nat) : Int) = none := by
      intro x hx
      rw [List.mem_range] at hx
      exact item_taken (all x (by omega))
    rw [List.filterMap_eq_nil_iff.2 this]
  · obtain ⟨k, hk, k1, k2, k3⟩ := hh
    have hk0 : k < L.procs.length := by rw [toPPs_len] at hk; exact hk
    have ek : (toPPs L.procs)[k] = toPP (L.procs[k]).2 := toPPs_at _ _ hk0 hk
    rw [ek] at k1 k2 k3
    have w1 : (L.procs[k]).2.phase = 13 := k1
    have w2 : (L.procs[k]).2.node = (u : Int) := k2
    have w3 : (L.procs[k]).2.ticket = (t' : Int) := k3
    have z := ((h.rel.qs k hk0).tick.2.2 w1).2
    have y := (h.rel.tk0 k hk0 w1).1
    rw [w2, Int.toNat_natCast, w3] at z y
    rw [all t' z] at y
    exact absurd y (by decide)

/-- A leaf at which no Get waits holds what there is, as far as there is room. -/
theorem fin_no (h : CRel c L P) (hc : c.kind = 1) (ht : TkOk L) (hr : RmOk c L) (hfin : FinOk c L) {u : Nat} (h1 : 1 ≤ u) (hu : u < L.past.length) (hf : formH (L.hist u) = 2) (hg : ∀ t, ¬ holdK 14 (toPPs L.procs) u t) : (manyH 7 (-1) (L.hist u) : Int) ≤ putsH (L.hist u) ∧ ((itemsH (L.hist u)).length : Int) = min (putsH (L.hist u) - manyH 7 (-1) (L.hist u)) (roomOf c u) := by
  have a := ht.at' u h1 hu hf
  have b := hr u h1 hu hf
  have hrp := room_pos h.rel.may u
  have hp0 : 0 ≤ putsH (L.hist u) := by
    have := ((h.rel.nodes u h1 hu).leaf hf).2.2.2.len hc
    omega
  obtain ⟨p, hp⟩ : ∃ p : Nat, putsH (L.hist u) = (p : Int) := ⟨(putsH (L.hist u)).toNat, by omega⟩
  obtain ⟨r, hr'⟩ : ∃ r : Nat, roomOf c u = (r : Int) := ⟨(roomOf c u).toNat, by omega⟩
  have tkn : ∀ t : Nat, takenH (L.hist u) t = true ↔ t < manyH 7 (-1) (L.hist u) := by
    intro t
    refine ⟨a.tk t, fun x => ?_⟩
    rcases a.get t x with y | y
    · exact y
    · exact absurd y (hg t)
  have hgp : manyH 7 (-1) (L.hist u) ≤ p := by
    by_cases e : manyH 7 (-1) (L.hist u) = 0
    · omega
    · have := (b (manyH 7 (-1) (L.hist u) - 1) (Or.inr ((tkn _).2 (by omega)))).2
      omega
  generalize hgd : manyH 7 (-1) (L.hist u) = g at *
  have key : ∀ t : Nat, t < p → (itemH (L.hist u) (t : Int) ≠ none ↔ g ≤ t ∧ t < min p (g + r)) := by
    intro t htp
    refine ⟨fun x => ?_, fun x => ?_⟩
    · have n1 : ¬ t < g := fun z => x (item_taken ((tkn t).2 z))
      have ro := (b t (Or.inl x)).1
      unfold roomyH at ro
      simp only [Bool.or_eq_true, decide_eq_true_eq] at ro
      rcases ro with y | y
      · omega
      · have h2 : 0 ≤ (t : Int) - roomOf c u := by
          unfold takenH at y
          simp only [Bool.and_eq_true, decide_eq_true_eq] at y
          exact y.1
        obtain ⟨k, ek⟩ : ∃ k : Nat, (t : Int) - roomOf c u = (k : Int) := ⟨((t : Int) - roomOf c u).toNat, by omega⟩
        rw [ek] at y
        have := (tkn k).1 y
        omega
    · rcases a.put t (by omega) with y | y | y
      · exact y
      · have := (tkn t).1 y
        omega
      · obtain ⟨k, hk, k1, k2, k3⟩ := y
        rcases hfin k hk with z | z | z
        · omega
        · have := z.2
          rw [k2, Int.toNat_natCast, k3, hgd] at this
          omega
        · omega
  refine ⟨by omega, ?_⟩
  unfold itemsH itemsTo
  rw [hp, Int.toNat_natCast, fm_len _ g (min p (g + r)) p key]
  split <;> omega

/-- The sum of f over the nodes at u and below. -/
def wS (f : Nat → Int) (N u : Nat) : Int := sumN (fun w => if undB u w = true then f w else 0) N
theorem w_split (f : Nat → Int) {N : Nat} (hN : N ≤ 32) {u : Nat} (h1 : 1 ≤ u) (hu : u < N) (hu32 : u < 32) : wS f N u = f u + (wS f N (2 * u) + wS f N (2 * u + 1)) := by
  unfold wS
  rw [← sumN_add, ← sumN_at (f u) u N hu, ← sumN_add]
  refine sumN_congr _ _ _ fun w hw => ?_
  obtain ⟨a, b, d, e⟩ := und_facts ⟨u, hu32⟩ ⟨w, by omega⟩ h1
  simp only at a b d e
  rw [a]
  by_cases ew : w = u
  · subst ew
    simp [d, e]
  · simp only [ew, decide_false, Bool.false_or, if_false]
    cases x : undB (2 * u) w <;> cases y : undB (2 * u + 1) w
    · simp
    · simp
    · simp
    · exact absurd ⟨x, y⟩ b

def capH (c : Conf) (L : Lay) (w : Nat) : Int := if formH (L.hist w) = 2 then roomOf c w else 0

theorem leaf_key (h : CRel c L P) {u : Nat} (h1 : 1 ≤ u) (hu : u < L.past.length) (hf : formH (L.hist u) = 2) : ∀ w, w < L.past.length → w ≠ u → undB u w = true → formH (L.hist w) = 3 := by
  have hN := h.rel.lenle
  intro w
  induction w using Nat.strongRecOn with
  | _ w ih =>
    intro hw hne hun
    obtain ⟨a, b⟩ := und_half ⟨u, by omega⟩ ⟨w, by omega⟩ h1 hne hun
    simp only at a b
    by_cases e3 : formH (L.hist w) = 3
    · exact e3
    · have hp := h.ck.ci.par w b hw e3
      by_cases eu : w / 2 = u
      · rw [eu] at hp
        omega
      · have := ih (w / 2) (by omega) (by omega) eu a
        omega

theorem cap_at (h : CRel c L P) : ∀ k u, 32 - u ≤ k → 1 ≤ u → u < L.past.length → formH (L.hist u) ≠ 3 → wS (capH c L) L.past.length u = roomOf c u := by
  have hN := h.rel.lenle
  intro k
  induction k with
  | zero => intro u hk h1 hu; omega
  | succ k ih =>
    intro u hk h1 hu h3
    have hf := (h.rel.nodes u h1 hu).form
    by_cases hf2 : formH (L.hist u) = 2
    · unfold wS
      have e : roomOf c u = capH c L u := by unfold capH; rw [if_pos hf2]
      rw [e, ← sumN_at (capH c L u) u L.past.length hu]
      refine sumN_congr _ _ _ fun w hw => ?_
      by_cases ew : w = u
      · subst ew
        have : undB w w = true := by
          have := (und_facts ⟨w, by omega⟩ ⟨w, by omega⟩ h1).1
          simp only at this
          rw [this]
          simp
        rw [if_pos this, if_pos rfl]
      · rw [if_neg ew]
        cases x : undB u w
        · simp
        · simp only [if_true]
          unfold capH
          rw [leaf_key h h1 hu hf2 w hw ew x]
          simp
    · have hf1 : formH (L.hist u) = 1 := by omega
      obtain ⟨k1, k2, k3⟩ := h.rel.kids u h1 hu hf1
      rw [w_split (capH c L) (by omega) h1 hu (by omega), ih (2 * u) (by omega) (by omega) (by omega) k2, ih (2 * u + 1) (by omega) (by omega) k1 k3]
      have e : capH c L u = 0 := by unfold capH; rw [if_neg hf2]
      obtain ⟨r0, r1⟩ := room_kid (c := c) h1 (by omega) (by rw [← h.rel.len]; exact k1)
      rw [e]
      omega

/-- All leaves together have room for Slots times 2 to the Depth. -/
theorem cap_all (h : CRel c L P) : sumN (capH c L) L.past.length = c.slots * 2 ^ c.depth.toNat := by
  have hN := h.rel.lenle
  have h1 : 1 < L.past.length := by
    rw [h.rel.len]
    have : 0 < 2 ^ c.depth.toNat := Nat.pos_of_ne_zero (by simp)
    rw [Nat.pow_succ]
    omega
  have e := cap_at h 32 1 (by omega) (by omega) h1 h.rel.root
  have er : roomOf c 1 = c.slots * 2 ^ c.depth.toNat := by
    unfold roomOf
    have : Nat.log2 1 = 0 := by decide
    rw [this]
    simp
  rw [← er, ← e]
  unfold wS
  refine sumN_congr _ _ _ fun w hw => ?_
  by_cases w0 : w = 0
  · subst w0
    have : capH c L 0 = 0 := by unfold capH; rw [h.rel.hist0]; simp
    rw [this]
    simp
  · have := und_one ⟨w, by omega⟩ (by show 1 ≤ w; omega)
    simp only at this
    rw [if_pos this]

def lenH (l : Hist) : Int := if formH l = 2 then ((itemsH l).length : Int) else 0
theorem lies_lenN (h : CRel c L P) : ∀ k, k ≤ L.past.length → ((liesL (rnodesTo L k)).length : Int) = sumN (fun w => lenH (L.hist w)) k
  | 0, _ => by simp [liesL, rnodesTo, sumN]
  | k + 1, hk => by
    have ih := lies_lenN h k (by omega)
    rw [rnodesTo_succ]
    unfold liesL at ih ⊢
    rw [List.flatMap_append, List.length_append]
    simp only [sumN]
    push_cast
    rw [ih]
    congr 1
    by_cases e : k = 0 ∨ formH (L.hist k) = 3
    · have f3 : formH (L.hist k) = 3 := by
        rcases e with e | e
        · subst e; exact h.rel.hist0
        · exact e
      rw [if_pos e]
      simp [lenH, f3]
    · rw [if_neg e]
      have hf := (h.rel.nodes k (by omega) (by omega)).form
      have hf2 : formH (L.hist k) = 1 ∨ formH (L.hist k) = 2 := by omega
      rcases hf2 with f | f
      · simp [lenH, f, rnode]
      · simp [lenH, f, rnode]

/-- Who waits: 1 for a Put in Store, -1 for a Get in Fetch. -/
def stA (p : Pr) : Int := if p.phase = 13 then 1 else if p.phase = 14 then -1 else 0

theorem st_swap (L : Lay) : ∀ ps : Ps, (∀ i, (hi : i < ps.length) → ((ps[i]).2.phase = 13 ∨ (ps[i]).2.phase = 14) → ∃ u : Nat, (ps[i]).2.node = (u : Int) ∧ u < L.past.length ∧ formH (L.hist u) = 2) → sumN (fun u => if formH (L.hist u) = 2 then sumP (stP u) ps else 0) L.past.length = sumP stA ps
  | [], _ => by
    simp only [sumP]
    exact sumN_zero _ _ fun k _ => by simp
  | y :: r, h => by
    have ih := st_swap L r fun i hi x => by
      have := h (i + 1) (by simpa using hi)
      simp only [List.getElem_cons_succ] at this
      exact this x
    have h0 := h 0 (by simp)
    simp only [List.getElem_cons_zero] at h0
    simp only [sumP]
    rw [← ih]
    have e1 : sumN (fun u => if formH (L.hist u) = 2 then stP u y.2 + sumP (stP u) r else 0) L.past.length = sumN (fun u => (if formH (L.hist u) = 2 then stP u y.2 else 0) + (if formH (L.hist u) = 2 then sumP (stP u) r else 0)) L.past.length := by
      refine sumN_congr _ _ _ fun k _ => ?_
      split <;> omega
    rw [e1, sumN_add]
    congr 1
    by_cases hp : y.2.phase = 13 ∨ y.2.phase = 14
    · obtain ⟨u, a, b, d⟩ := h0 hp
      rw [← sumN_at (stA y.2) u L.past.length b]
      refine sumN_congr _ _ _ fun k _ => ?_
      by_cases ek : k = u
      · subst ek
        rw [if_pos d, if_pos rfl]
        unfold stP stA
        rw [if_pos a]
      · rw [if_neg ek]
        have : stP k y.2 = 0 := by unfold stP; rw [if_neg (by omega)]
        rw [this]
        simp
    · have z : stA y.2 = 0 := by unfold stA; rw [if_neg (fun x => hp (Or.inl x)), if_neg (fun x => hp (Or.inr x))]
      rw [z]
      refine sumN_zero _ _ fun k _ => ?_
      have : stP k y.2 = 0 := by
        unfold stP
        split
        · rw [if_neg (fun x => hp (Or.inl x)), if_neg (fun x => hp (Or.inr x))]
        · rfl
      rw [this]
      simp
end

end Go.Proofs.Ytjnmpejcegmkhab
