/- What inside and alone ask of the nodes, of the document's tree. No statement of the seat is proved here. -/
import Derived.Test.YtjnmpejcegmkhaaShape
import Derived.Test.YtjnmpejcegmkhaaH4
import Derived.Test.YtjnmpejcegmkhaaNew0
import Derived.Test.YtjnmpejcegmkhaaI1
import Derived.Test.YtjnmpejcegmkhaaI2
namespace Go.Proofs.Ytjnmpejcegmkhaa
open Go.RowKit

theorem cnt_none (p : Int) (f : Nat → Int) : ∀ W, (∀ k, k < W → f k ≠ p) → cntI p ((List.range W).map f) = 0
  | 0, _ => rfl
  | W + 1, h => by
    rw [List.range_succ, List.map_append, cntI_app, cnt_none p f W (fun k hk => h k (by omega))]
    simp only [List.map_cons, List.map_nil, cntI]
    rw [if_neg (h W (by omega))]
theorem cnt_one (p : Int) (f : Nat → Int) (s : Nat) : ∀ W, s < W → (∀ k, k < W → (f k = p ↔ k = s)) → cntI p ((List.range W).map f) = 1
  | 0, h, _ => by omega
  | W + 1, hs, h => by
    rw [List.range_succ, List.map_append, cntI_app]
    simp only [List.map_cons, List.map_nil, cntI]
    by_cases e : s = W
    · rw [if_pos ((h W (by omega)).2 e.symm), cnt_none p f W (fun k hk he => by have := (h k (by omega)).1 he; omega)]
    · rw [if_neg (fun he => by have := (h W (by omega)).1 he; omega), cnt_one p f s W (by omega) (fun k hk => h k (by omega))]

theorem SlotRel.is {ps : Prs} {v k : Nat} {s : SL} (h : SlotRel ps v k s) (p : Nat) (hp : p < ps.length) : waitsL v k ps 0 = (p : Int) ↔ waitP v k (ps[p]).2 = true := by
  rcases h with ⟨_, h1⟩ | ⟨j, hj, _, h2, h3, _⟩
  · rw [waitsL_none _ _ _ _ h1, h1 p hp]
    constructor
    · intro e; omega
    · intro e; simp at e
  · rw [waitsL_some _ _ _ _ j hj h2 h3]
    constructor
    · intro e
      have : j = p := by omega
      subst this
      exact h2
    · intro e
      have := h3 p hp e
      omega
theorem SlotRel.rng {ps : Prs} {v k : Nat} {s : SL} (h : SlotRel ps v k s) : -1 ≤ waitsL v k ps 0 ∧ waitsL v k ps 0 < (ps.length : Int) := by
  rcases h with ⟨_, h1⟩ | ⟨j, hj, _, h2, h3, _⟩
  · rw [waitsL_none _ _ _ _ h1]; omega
  · rw [waitsL_some _ _ _ _ j hj h2 h3]; omega

theorem CRel.slotsOk {c : Conf} {L : Lay} {P : PLay} (h : CRel c L P) (hs : SlotOk L) (v : Nat) (h1 : 1 ≤ v) (hN : v < L.past.length) : SlotsOk c.width.toNat L.procs (rnode L v) := by
  have hcf := h.rel.confs
  have hnr := h.rel.nodes v h1 hN
  unfold rnode
  by_cases hf : formH (L.hist v) = 1
  · rw [if_pos hf, h.rel.cL]
    obtain ⟨a1, a2, a3, a4, a5, a6⟩ := hnr.inn hf
    refine ⟨fun _ => ⟨by simp [waitTo], by rw [← a3]; exact a4, by show widthH _ ≤ _; rw [← a3]; omega, Int.emod_nonneg _ (by omega), ?_⟩, fun _ p hp => ?_, fun _ i hi => ?_, fun e => by simp at e⟩
    · have := Int.emod_lt_of_pos ((fromH (L.hist v)).1.n + manyH 4 (-1) (L.hist v)) (show (0 : Int) < 2 by omega)
      show (_ : Int) % 2 ≤ 1
      omega
    · have hsl := hs p hp
      rw [h.rel.cL] at hsl
      show cntI p (waitTo v L.procs c.width.toNat) = _
      unfold waitTo
      have hk : ∀ k, k < c.width.toNat → (waitsL v k L.procs 0 = (p : Int) ↔ waitP v k (L.procs[p]).2 = true) := fun k hk => (a6 k (by omega)).is p hp
      show _ = if (L.procs[p]).2.node = (v : Int) ∧ _ then 1 else 0
      by_cases hw : (L.procs[p]).2.node = (v : Int) ∧ ((L.procs[p]).2.phase = 6 ∨ (L.procs[p]).2.phase = 7)
      · rw [if_pos hw]
        have hs2 := hsl (by omega) (by omega)
        refine cnt_one _ _ (L.procs[p]).2.slot.toNat _ (by omega) fun k hkk => ?_
        rw [hk k hkk]
        unfold waitP
        simp only [Bool.and_eq_true, Bool.or_eq_true, decide_eq_true_eq]
        constructor
        · rintro ⟨⟨_, e⟩, _⟩; omega
        · intro e; exact ⟨⟨hw.1, by omega⟩, hw.2⟩
      · rw [if_neg hw]
        refine cnt_none _ _ _ fun k hkk he => ?_
        rw [hk k hkk] at he
        unfold waitP at he
        simp only [Bool.and_eq_true, Bool.or_eq_true, decide_eq_true_eq] at he
        exact hw ⟨he.1.1, he.2⟩
    · simp only [waitTo, List.getElem_map, List.getElem_range]
      simp only [waitTo, List.length_map, List.length_range] at hi
      exact (a6 i (by omega)).rng
  · rw [if_neg hf]
    exact ⟨fun e => by simp at e, fun e => by simp at e, fun e => by simp at e, fun _ => rfl⟩

theorem KSt.ins {w : World} {B hb : Nat} {c : Conf} {S : Gh} {P : PLay} (h : KSt w B hb c S P) : InsL c.width.toNat S.L.procs (rnodes S.L) := by
  refine ⟨fun i hi => ?_, fun p hp => ?_, fun p hp => h.rel.rel.node64 p hp⟩
  · obtain ⟨v, a, b, e⟩ := (rnodes_mem S.L _ _).1 (List.getElem_mem hi)
    rw [e]
    refine ⟨v, (rnode_num S.L v).1, ?_, ?_, h.rel.slotsOk h.of.slot v (by have := b.1; omega) a⟩
    · unfold rnode; split <;> rfl
    · unfold rnode; split <;> rfl
  · have hq := h.rel.rel.qs p hp
    refine ⟨⟨fun e => hq.done e, fun e => ?_⟩, fun e => ?_⟩
    · by_cases h20 : (S.L.procs[p]).2.phase = 20
      · exact h20
      · obtain ⟨u, a, b, _⟩ := hq.live h20
        omega
    · have h20 : (S.L.procs[p]).2.phase ≠ 20 := fun x => e (hq.done x)
      obtain ⟨u, a, b, d, f⟩ := hq.live h20
      refine findN_mem _ _ _ ?_
      rw [a]
      exact List.mem_map.2 ⟨rnode S.L u, (rnodes_mem S.L _ _).2 ⟨u, d, ⟨by omega, f⟩, rfl⟩, (rnode_num S.L u).1⟩

/- A Step touches one process and one node; a Spawn none. -/
theorem insideL_alike (u : Nat) : ∀ (a b : Prs), a.length = b.length → (∀ j, (ha : j < a.length) → (hb : j < b.length) → holdsP u (a[j]).2 = holdsP u (b[j]).2) → insideL u a = insideL u b
  | [], [], _, _ => rfl
  | [], _ :: _, h, _ => by simp at h
  | _ :: _, [], h, _ => by simp at h
  | x :: a, y :: b, h, hj => by
    have h0 := hj 0 (by simp) (by simp)
    simp only [List.getElem_cons_zero] at h0
    simp only [insideL, h0]
    rw [insideL_alike u a b (by simpa using h) (fun j ha hb => by have := hj (j + 1) (by simpa using ha) (by simpa using hb); simpa using this)]
theorem shutL_alike (u : Int) : ∀ (a b : Prs), a.length = b.length → (∀ j, (ha : j < a.length) → (hb : j < b.length) → shutP u (a[j]).2 = shutP u (b[j]).2) → shutL u a = shutL u b
  | [], [], _, _ => rfl
  | [], _ :: _, h, _ => by simp at h
  | _ :: _, [], h, _ => by simp at h
  | x :: a, y :: b, h, hj => by
    have h0 := hj 0 (by simp) (by simp)
    simp only [List.getElem_cons_zero] at h0
    simp only [shutL, h0]
    rw [shutL_alike u a b (by simpa using h) (fun j ha hb => by have := hj (j + 1) (by simpa using ha) (by simpa using hb); simpa using this)]
theorem waitsL_alike (u k : Int) : ∀ (a b : Prs) (o : Nat), a.length = b.length → (∀ j, (ha : j < a.length) → (hb : j < b.length) → waitP u k (a[j]).2 = waitP u k (b[j]).2) → waitsL u k a o = waitsL u k b o
  | [], [], _, _, _ => rfl
  | [], _ :: _, _, h, _ => by simp at h
  | _ :: _, [], _, h, _ => by simp at h
  | x :: a, y :: b, o, h, hj => by
    have h0 := hj 0 (by simp) (by simp)
    simp only [List.getElem_cons_zero] at h0
    simp only [waitsL, h0]
    rw [waitsL_alike u k a b (o + 1) (by simpa using h) (fun j ha hb => by have := hj (j + 1) (by simpa using ha) (by simpa using hb); simpa using this)]

theorem rnode_alike {L L' : Lay} (u : Nat) (hh : L'.hist u = L.hist u) (hc : L'.c = L.c) (hi : insideL u L'.procs = insideL u L.procs) (hs : shutL u L'.procs = shutL u L.procs) (hw : ∀ k : Int, waitsL u k L'.procs 0 = waitsL u k L.procs 0) : rnode L' u = rnode L u := by
  have e : waitTo u L'.procs L'.c.width.toNat = waitTo u L.procs L.c.width.toNat := by
    unfold waitTo
    rw [hc]
    exact congrArg (fun f => (List.range L.c.width.toNat).map f) (funext fun k => hw (k : Int))
  unfold rnode
  rw [hh, hi, hs, e]

theorem holds_pp (u : Nat) {p q : Pr} (h : toPP p = toPP q) : holdsP u p = holdsP u q := by
  obtain ⟨_, _, _, a, b, _⟩ := pp_told h
  unfold holdsP atP
  rw [a, b]
theorem shut_pp (u : Int) {p q : Pr} (h : toPP p = toPP q) : shutP u p = shutP u q := by
  obtain ⟨_, _, _, a, b, _⟩ := pp_told h
  unfold shutP
  rw [a, b]
theorem wait_pp (u k : Int) {p q : Pr} (h : toPP p = toPP q) : waitP u k p = waitP u k q := by
  obtain ⟨_, _, _, a, b, _, d⟩ := pp_told h
  unfold waitP
  rw [a, b, d]

theorem went_node {L L' : Lay} {i v : Nat} {p p' : Pr} (h : Went L i v p p' L') (hi : i < L.procs.length) (hp : (L.procs[i]).2 = p) (hn : p.node = (v : Int)) (hv1 : 1 ≤ v) (hv : v < 32) (u : Nat) (hu1 : 1 ≤ u) (hu : u < 32) (huv : u ≠ v) (hch : p.phase = 17 → u ≠ 2 * v ∧ u ≠ 2 * v + 1) : L'.hist u = L.hist u ∧ rnode L' u = rnode L u := by
  have hh := h.hist u huv hch
  have hl := went_len h
  obtain ⟨e1, e2, e3⟩ := h.pm.elsewhere hn hv1 hv
  have key : ∀ j, (hj' : j < L'.procs.length) → (hj : j < L.procs.length) → holdsP u (L'.procs[j]).2 = holdsP u (L.procs[j]).2 ∧ shutP u (L'.procs[j]).2 = shutP u (L.procs[j]).2 ∧ ∀ k : Int, waitP u k (L'.procs[j]).2 = waitP u k (L.procs[j]).2 := by
    intro j hj' hj
    by_cases e : j = i
    · subst e
      have hs := went_self h hj'
      rw [holds_pp u hs, shut_pp u hs, hp]
      exact ⟨e1 u hu1 hu huv, e3 u (by omega), fun k => by rw [wait_pp u k hs]; exact e2 u k (by omega)⟩
    · have ho := went_other h j hj hj' e
      exact ⟨holds_pp u ho, shut_pp u ho, fun k => wait_pp u k ho⟩
  refine ⟨hh, rnode_alike u hh h.c ?_ ?_ fun k => ?_⟩
  · exact insideL_alike u _ _ hl fun j a b => (key j a b).1
  · exact shutL_alike u _ _ hl fun j a b => (key j a b).2.1
  · exact waitsL_alike u k _ _ 0 hl fun j a b => (key j a b).2.2 k

theorem insideL_one (u : Nat) (ps : Prs) (x : Nat × Pr) (h : holdsP u x.2 = false) : insideL u (ps ++ [x]) = insideL u ps := by
  rw [insideL_append]; simp [insideL, h]
theorem shutL_one (u : Int) (x : Nat × Pr) (h : shutP u x.2 = false) : ∀ ps : Prs, shutL u (ps ++ [x]) = shutL u ps
  | [] => by simp [shutL, h]
  | y :: r => by simp only [List.cons_append, shutL]; rw [shutL_one u x h r]
theorem waitsL_one (u k : Int) (x : Nat × Pr) (h : waitP u k x.2 = false) : ∀ (ps : Prs) (o : Nat), waitsL u k (ps ++ [x]) o = waitsL u k ps o
  | [], o => by simp [waitsL, h]
  | y :: r, o => by simp only [List.cons_append, waitsL]; rw [waitsL_one u k x h r]

theorem spawn_node (L : Lay) (o : Op3) (u : Nat) (hu : 1 ≤ u) : rnode { L with procs := L.procs ++ [(0, newPr o)] } u = rnode L u := by
  have hph : (newPr o).phase = 0 ∨ (newPr o).phase = 15 := by
    unfold newPr
    by_cases e : isChange o ∧ o.node = 1
    · simp [e]
    · simp [e]
  have hat : atP (newPr o) = 0 := by
    unfold atP
    rw [if_pos (by omega)]
    show (1 : Int).toNat / 2 = 0
    rfl
  refine rnode_alike u rfl rfl ?_ ?_ fun k => ?_
  · refine insideL_one u _ _ ?_
    show holdsP u (newPr o) = false
    unfold holdsP
    rw [hat, climb_stop 6 0 u (by omega)]
    simp
    omega
  · refine shutL_one u _ ?_ _
    show shutP u (newPr o) = false
    unfold shutP
    have : ¬ (newPr o).phase = 16 ∧ ¬ (newPr o).phase = 17 ∧ ¬ (newPr o).phase = 18 := by omega
    simp [this]
  · refine waitsL_one u k _ ?_ _ _
    show waitP u k (newPr o) = false
    unfold waitP
    have : ¬ (newPr o).phase = 6 ∧ ¬ (newPr o).phase = 7 := by omega
    simp [this]

theorem findN_at (v : Int) : ∀ (l : List Int) (i : Nat), 0 ≤ findN v l i → ∃ k, ∃ hk : k < l.length, findN v l i = ((i + k : Nat) : Int) ∧ l[k] = v
  | [], _, h => by simp [findN] at h
  | x :: r, i, h => by
    unfold findN at h ⊢
    by_cases e : x = v
    · rw [if_pos e]
      exact ⟨0, by simp, by simp, by simpa using e⟩
    · rw [if_neg e] at h ⊢
      obtain ⟨k, hk, a, b⟩ := findN_at v r (i + 1) h
      exact ⟨k + 1, by simpa using hk, by rw [a]; congr 1; omega, by simpa using b⟩

/-- Where a node is told, if it is. -/
theorem find_rnode (L : Lay) (u : Nat) : (findN u ((rnodes L).map fun d => d.num) 0 = -1 ∧ ¬ (u < L.past.length ∧ isV L u)) ∨ ∃ k, ∃ hk : k < (rnodes L).length, findN u ((rnodes L).map fun d => d.num) 0 = (k : Int) ∧ (rnodes L)[k] = rnode L u ∧ (u < L.past.length ∧ isV L u) := by
  by_cases h : u < L.past.length ∧ isV L u
  · right
    have hm : (u : Int) ∈ (rnodes L).map fun d => d.num := List.mem_map.2 ⟨rnode L u, (rnodes_mem L _ _).2 ⟨u, h.1, h.2, rfl⟩, (rnode_num L u).1⟩
    obtain ⟨k, hk, a, b⟩ := findN_at _ _ 0 (findN_mem _ _ 0 hm)
    have hk' : k < (rnodes L).length := by simpa using hk
    refine ⟨k, hk', by rw [a]; simp, ?_, h⟩
    rw [List.getElem_map] at b
    obtain ⟨v, c1, c2, e⟩ := (rnodes_mem L _ _).1 (List.getElem_mem hk')
    have e' : (rnodes L)[k] = rnode L v := e
    rw [e', (rnode_num L v).1] at b
    have : v = u := by omega
    rw [e', this]
  · left
    refine ⟨?_, h⟩
    by_cases hf : 0 ≤ findN u ((rnodes L).map fun d => d.num) 0
    · exfalso
      obtain ⟨k, hk, a, b⟩ := findN_at _ _ 0 hf
      have hk' : k < (rnodes L).length := by simpa using hk
      rw [List.getElem_map] at b
      obtain ⟨v, c1, c2, e⟩ := (rnodes_mem L _ _).1 (List.getElem_mem hk')
      have e' : (rnodes L)[k] = rnode L v := e
      rw [e', (rnode_num L v).1] at b
      have : v = u := by omega
      subst this
      exact h ⟨c1, c2⟩
    · have : ∀ (v : Int) (l : List Int) (i : Nat), -1 ≤ findN v l i := by
        intro v l
        induction l with
        | nil => intro i; simp [findN]
        | cons x r ih => intro i; unfold findN; split; omega; exact ih _
      have := this u ((rnodes L).map fun d => d.num) 0
      omega

theorem sameL_of {L L' : Lay} (v : Nat) (ch : Bool) (hl : L'.past.length = L.past.length) (h : ∀ u, 1 ≤ u → u < L.past.length → ¬ (u = v ∧ 0 < v) → ¬ (ch = true ∧ u / 2 = v ∧ 1 < u) → L'.hist u = L.hist u ∧ rnode L' u = rnode L u) : SameL (rnodes L) (rnodes L') v ch := by
  intro u h1 h64 n1 n2
  have hv : (u < L'.past.length ∧ isV L' u) ↔ (u < L.past.length ∧ isV L u) := by
    rw [hl]
    constructor
    · rintro ⟨a, b, d⟩
      have := (h u h1 a n1 n2).1
      exact ⟨a, b, by rw [← this]; exact d⟩
    · rintro ⟨a, b, d⟩
      have := (h u h1 a n1 n2).1
      exact ⟨a, b, by rw [this]; exact d⟩
  rcases find_rnode L u with ⟨a, b⟩ | ⟨i, hi, a, b, d⟩
  · rcases find_rnode L' u with ⟨a', b'⟩ | ⟨j, hj, a', b', d'⟩
    · exact Or.inl ⟨a, a'⟩
    · exact absurd (hv.1 d') b
  · rcases find_rnode L' u with ⟨a', b'⟩ | ⟨j, hj, a', b', d'⟩
    · exact absurd (hv.2 d) b'
    · exact Or.inr ⟨i, j, hi, hj, a, a', by rw [b, b']; exact (h u h1 d.1 n1 n2).2⟩

theorem sameL_refl (L : Lay) (v : Nat) (ch : Bool) : SameL (rnodes L) (rnodes L) v ch := sameL_of v ch rfl fun _ _ _ _ _ => ⟨rfl, rfl⟩

def whoK (S : Gh) (k a : Int) : Prop := k = 8 ∧ 0 ≤ a ∧ a < S.L.procs.length ∧ phaseAt S.L a.toNat ≠ 20

/-- Of the processes below k all but one are told alike. -/
def AlikeP (L L' : Lay) (who : Int) : Prop :=
  L.procs.length ≤ L'.procs.length ∧ ∀ p, (hp : p < L.procs.length) → (hp' : p < L'.procs.length) → (p : Int) ≠ who → (L'.procs[p]).2.phase = (L.procs[p]).2.phase ∧ (L'.procs[p]).2.node = (L.procs[p]).2.node ∧ (L'.procs[p]).2.val = (L.procs[p]).2.val

theorem KSt.alone {w : World} {B hb : Nat} {c : Conf} {S : Gh} {P : PLay} (h : KSt w B hb c S P) (k a b : Int) (h9 : k ≠ 9) :
    (whoK S k a → ∃ v : Nat, ∃ hi : a.toNat < S.L.procs.length, (S.L.procs[a.toNat]).2.node = (v : Int) ∧ 1 ≤ v ∧ v < 32 ∧ SameL (rnodes S.L) (rnodes (gplay c S k a b).L) v (decide ((S.L.procs[a.toNat]).2.phase = 17)) ∧ AlikeP S.L (gplay c S k a b).L a) ∧
    (¬ whoK S k a → SameL (rnodes S.L) (rnodes (gplay c S k a b).L) 0 false ∧ AlikeP S.L (gplay c S k a b).L (-1)) := by
  have stay : SameL (rnodes S.L) (rnodes S.L) 0 false ∧ AlikeP S.L S.L (-1) := ⟨sameL_refl _ _ _, Nat.le_refl _, fun p _ _ _ => ⟨rfl, rfl, rfl⟩⟩
  refine ⟨fun hw => ?_, fun hw => ?_⟩
  · obtain ⟨rfl, a0, a1, a20⟩ := hw
    have hi : a.toNat < S.L.procs.length := by omega
    have h20 := a20
    rw [phaseAt_eq S.L _ hi] at h20
    have eg : (gplay c S 8 a b).L = lstep S.L a.toNat b := by
      unfold gplay gstep
      rw [if_pos rfl, if_pos ⟨a0, a1, a20⟩]
    rw [eg]
    obtain ⟨v, n, hh⟩ := h.rel.rel.here hi h20
    obtain ⟨p', hwt⟩ := hh.went h.rel.ck b
    have hat := hh.at'
    have hep := hh.ep
    refine ⟨v, hi, by rw [hep]; exact hat, hh.v1, hh.v32, ?_, ?_, fun p hp hp' hne => ?_⟩
    · refine sameL_of v _ hwt.past fun u u1 uN n1 n2 => ?_
      rw [hep] at n2
      have hN := h.rel.rel.lenle
      refine went_node hwt hi hep hat hh.v1 hh.v32 u u1 (by omega) (fun e => n1 ⟨e, hh.v1⟩) fun e17 => ?_
      have hv1 := hh.v1
      constructor
      · intro e; exact n2 ⟨by simp [e17], by omega, by omega⟩
      · intro e; exact n2 ⟨by simp [e17], by omega, by omega⟩
    · rw [went_len hwt]; exact Nat.le_refl _
    · obtain ⟨_, _, _, x4, x5, x6, _⟩ := pp_told (went_other hwt p hp hp' (by omega))
      exact ⟨x4, x5, x6⟩
  · by_cases h8 : k = 8
    · have eg : (gplay c S k a b).L = S.L := by
        subst h8
        unfold gplay gstep
        rw [if_pos rfl, if_neg]
        rintro ⟨x, y, z⟩
        exact hw ⟨rfl, x, y, z⟩
      rw [eg]
      exact stay
    · by_cases hk : 1 ≤ k ∧ k ≤ 6
      · have eg : gplay c S k a b = gspawn c S (wantK k a b) := by unfold gplay; rw [if_neg h8, if_neg h9, if_pos hk]
        rw [eg]
        unfold gspawn
        split
        · refine ⟨sameL_of 0 false rfl fun u u1 _ _ _ => ⟨rfl, spawn_node S.L _ u u1⟩, by simp, fun p hp hp' _ => ?_⟩
          simp [List.getElem_append_left hp]
        · exact stay
      · have eg : gplay c S k a b = S := by unfold gplay; rw [if_neg h8, if_neg h9, if_neg hk]
        rw [eg]
        exact stay

end Go.Proofs.Ytjnmpejcegmkhaa
