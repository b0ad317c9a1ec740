/- Contracts of the program's plant and New. No statement of the seat is proved here. -/
import Derived.Test.YtjnmpejcegmkhaaProg3
import Derived.Deep.MidRow
namespace Go.Proofs.Ytjnmpejcegmkhaa
open Go.RowKit

/-- A stretch of a list written anew. -/
def setSeg (l : List Value) : Nat → List Value → List Value
  | _, [] => l
  | o, x :: r => setSeg (l.set o x) (o + 1) r

theorem setSeg_mid (a b c x : List Value) (h : b.length = x.length) : setSeg (a ++ (b ++ c)) a.length x = a ++ (x ++ c) := by
  induction x generalizing a b with
  | nil =>
    have : b = [] := List.eq_nil_of_length_eq_zero (by simpa using h)
    subst this; rfl
  | cons y r ih =>
    cases b with
    | nil => simp at h
    | cons z b =>
      simp only [setSeg]
      have e : (a ++ (z :: b ++ c)).set a.length y = (a ++ [y]) ++ (b ++ c) := by
        rw [List.set_append_right _ _ (Nat.le_refl _)]; simp
      rw [e, show a.length + 1 = (a ++ [y]).length from by simp, ih (a ++ [y]) b (by simpa using h)]
      simp

theorem flat_split {α : Type} (f : α → List Value) (l : List α) (k : Nat) (hk : k < l.length) (x : α) : l.flatMap f = (l.take k).flatMap f ++ (f l[k] ++ (l.drop (k + 1)).flatMap f) ∧ (l.set k x).flatMap f = (l.take k).flatMap f ++ (f x ++ (l.drop (k + 1)).flatMap f) := by
  constructor
  · have e : l = l.take k ++ l[k] :: l.drop (k + 1) := by rw [← List.drop_eq_getElem_cons hk, List.take_append_drop]
    have e2 := congrArg (List.flatMap f) e
    rw [List.flatMap_append, List.flatMap_cons] at e2
    exact e2
  · rw [List.set_eq_take_append_cons_drop, if_pos hk]
    simp

theorem pTree_set (L : PLay) (v : Nat) (hv : v < L.nodes.length) (n : PN) : setSeg (pTree L) (8 + v * 21) (pnCells n) = pTree { L with nodes := L.nodes.set v n } := by
  obtain ⟨h1, h2⟩ := flat_split pnCells L.nodes v hv n
  simp only [pTree]
  rw [h1, h2]
  have e1 : pConf L.c ++ ((L.nodes.take v).flatMap pnCells ++ (pnCells L.nodes[v] ++ (L.nodes.drop (v + 1)).flatMap pnCells) ++ [L.pv]) = (pConf L.c ++ (L.nodes.take v).flatMap pnCells) ++ (pnCells L.nodes[v] ++ ((L.nodes.drop (v + 1)).flatMap pnCells ++ [L.pv])) := by simp
  have e2 : pConf L.c ++ ((L.nodes.take v).flatMap pnCells ++ (pnCells n ++ (L.nodes.drop (v + 1)).flatMap pnCells) ++ [L.pv]) = (pConf L.c ++ (L.nodes.take v).flatMap pnCells) ++ (pnCells n ++ ((L.nodes.drop (v + 1)).flatMap pnCells ++ [L.pv])) := by simp
  have e3 : 8 + v * 21 = (pConf L.c ++ (L.nodes.take v).flatMap pnCells).length := by
    rw [List.length_append, flat_length pnCells 21 pn_len, List.length_take]
    have : (pConf L.c).length = 8 := rfl
    rw [this, Nat.min_eq_left (by omega)]
  rw [e1, e2, e3]
  exact setSeg_mid _ _ _ _ rfl

theorem block_setCells {T : TypeId} (b : Nat) (xs : List Value) : ∀ (o : Nat) (w : World) (l : List Value), w.heap[b]? = some (.cells l.toArray T (0, 0)) → (w.setCells b o xs).heap[b]? = some (.cells (setSeg l o xs).toArray T (0, 0)) := by
  induction xs with
  | nil => intro o w l h; exact h
  | cons x r ih =>
    intro o w l h
    simp only [World.setCells, setSeg]
    refine ih (o + 1) _ _ ?_
    have := nb_set h o x
    simpa using this
theorem heap_setCells (b : Nat) (xs : List Value) : ∀ (o : Nat) (w : World) (k : Nat), k ≠ b → (w.setCells b o xs).heap[k]? = w.heap[k]? := by
  induction xs with
  | nil => intro o w k h; rfl
  | cons x r ih =>
    intro o w k h
    simp only [World.setCells]
    rw [ih (o + 1) _ k h, Below.heap_setCell _ _ _ _ h]
theorem below_setCells {B : Nat} {a : World} (b : Nat) (hb : B ≤ b) (xs : List Value) : ∀ (o : Nat) (w : World), Below B a w → Below B a (w.setCells b o xs) := by
  induction xs with
  | nil => intro o w h; exact h
  | cons x r ih => intro o w h; exact ih (o + 1) _ (h.setCell hb x)

theorem ownsRow_block_kept {w w' : World} {base : Nat} {e : TypeId} {size : Nat} {v : Value} {n : Nat} {xs : List Value} (h : w.ownsRow base e size v n xs) {b : Nat} {cs : Array Value} {T : TypeId} (hb : w.heap[b]? = some (.cells cs T (0, 0))) (hT : T ≠ e)
    (hk : ∀ k, k ≠ b → w'.heap[k]? = w.heap[k]?) : w'.ownsRow base e size v n xs := by
  obtain ⟨h1, h2⟩ := h
  refine ⟨h1, ?_⟩
  rcases h2 with h2 | ⟨g, cap, cur, hv, hg, hh, r⟩
  · exact Or.inl h2
  · refine Or.inr ⟨g, cap, cur, hv, hg, ?_, r⟩
    rw [hk g (by intro e; subst e; rw [hb] at hh; simp at hh; exact hT hh.2)]
    exact hh

/-- A node of the program's tree is written whole. -/
theorem PRep.setNode {w : World} {B : Nat} {L : PLay} (h : PRep w B L) (v : Nat) (hv : v < L.nodes.length) (n : PN) (hn : w.ownsRow B 135 2 n.iv n.items.length (n.items.flatMap fun y => [I y.1, I y.2])) (hnb : n.iv.ownBlock = none) :
    PRep (w.setCells L.tb (8 + v * 21) (pnCells n)) B { L with nodes := L.nodes.set v n } where
  tree := by rw [← pTree_set L v hv n]; exact block_setCells L.tb (pnCells n) _ _ _ h.tree
  treeB := h.treeB
  len := by simpa using h.len
  prow := ownsRow_block_kept h.prow h.tree (by decide) (fun k hk => heap_setCells _ _ _ _ k hk)
  items := fun u hu' => by
    have hu : u < L.nodes.length := by simpa using hu'
    by_cases e : u = v
    · subst e
      simp only [List.getElem_set_self]
      exact ownsRow_block_kept hn h.tree (by decide) (fun k hk => heap_setCells _ _ _ _ k hk)
    · simp only [List.getElem_set_ne (Ne.symm e)]
      exact ownsRow_block_kept (h.items u hu) h.tree (by decide) (fun k hk => heap_setCells _ _ _ _ k hk)
  ind := fun a b ha hb g e1 e2 => by
    have ha' : a < L.nodes.length := by simpa using ha
    have hb' : b < L.nodes.length := by simpa using hb
    by_cases ea : a = v
    · subst ea
      simp only [List.getElem_set_self] at e1
      rw [hnb] at e1
      exact absurd e1 (by simp)
    · by_cases eb : b = v
      · subst eb
        simp only [List.getElem_set_self] at e2
        rw [hnb] at e2
        exact absurd e2 (by simp)
      · simp only [List.getElem_set_ne (Ne.symm ea)] at e1
        simp only [List.getElem_set_ne (Ne.symm eb)] at e2
        exact h.ind a b ha' hb' g e1 e2

theorem PRep.there {w : World} {B : Nat} {L : PLay} (h : PRep w B L) (v : Nat) (hv : v < L.nodes.length) : w.there L.tb (8 + v * 21) 21 := by
  intro j hj
  refine ⟨?_, (nb_facts h.tree).2 _⟩
  rw [h.ncell v hv j hj]
  have : j < (pnCells L.nodes[v]).length := hj
  simp [List.getElem?_eq_getElem this]

def newPN (fl : Nat) (v : Nat) : PN := if v < fl then innerPN else if v < 2 * fl then leafPN else zeroPN

theorem Try.size74 : (Try.prog.info? 74).map (·.size) = some 21 := by kernel_rfl

/-- On the way: the nodes below k are laid out. -/
structure PMid (L : PLay) (fl k : Nat) (L' : PLay) : Prop where
  tb : L'.tb = L.tb
  c : L'.c = L.c
  pv : L'.pv = L.pv
  procs : L'.procs = L.procs
  nodes : ∀ v, 1 ≤ v → v < 32 → L'.nodes.getD v zeroPN = if v < k then newPN fl v else zeroPN

theorem PMid.step {L : PLay} {fl k : Nat} {L' : PLay} (h : PMid L fl k L') (hl : L'.nodes.length = 32) (hk : k < 32) (n : PN) (hn : n = newPN fl k) : PMid L fl (k + 1) { L' with nodes := L'.nodes.set k n } where
  tb := h.tb
  c := h.c
  pv := h.pv
  procs := h.procs
  nodes := fun v h1 h2 => by
    by_cases e : v = k
    · subst e
      simp [List.getD_eq_getElem?_getD, hl, hk, hn]
    · have := h.nodes v h1 h2
      simp only [List.getD_eq_getElem?_getD] at this
      simp only [List.getD_eq_getElem?_getD, List.getElem?_set_ne (Ne.symm e)]
      rw [this]
      by_cases h3 : v < k
      · rw [if_pos h3, if_pos (by omega)]
      · rw [if_neg h3, if_neg (by omega)]

theorem pn_size (n : PN) : (pnCells n).toArray.size = 21 := rfl
theorem pn_one (n : PN) (h : ∃ a l c, n.iv = .slice a l c) : (pnCells n).toArray.all (·.oneCell') = true := by
  obtain ⟨a, l, c, h⟩ := h
  refine all_oneCell_toArray fun u hu => ?_
  simp only [pnCells, List.mem_cons, List.not_mem_nil, or_false] at hu
  rcases hu with h' | h' | h' | h' | h' | h' | h' | h' | h' | h' | h' | h' | h' | h' | h' | h' | h' | h' | h' | h' | h' <;> subst h' <;> first | rfl | (rw [h]; rfl)

set_option maxHeartbeats 4000000 in
set_option maxRecDepth 100000 in
theorem plant_c {w : World} {B : Nat} {L : PLay} (h : PRep w B L) (s : Nat) (hs : L.c.start = s) (hs4 : s ≤ 4) (hz : L.nodes = List.replicate 32 zeroPN) :
    Calls Try.prog 66 #[.pointer (some ⟨L.tb, 0, none⟩)] w fun e w' => e = .returned (.tuple #[]) ∧ (∃ L', PRep w' B L' ∧ PMid L (2 ^ s) 32 L') ∧ Below B w w' := by
  have c2 : w.cell? ⟨L.tb, 2, none⟩ = some (I s) := by rw [h.ccell 2 (by omega), ← hs]; rfl
  have hf := firstOfDepth_c s (by omega) w
  obtain ⟨fl, hfl⟩ : ∃ fl : Nat, fl = 2 ^ s := ⟨_, rfl⟩
  have hfl16 : fl ≤ 16 := by rw [hfl]; exact Nat.le_trans (Nat.pow_le_pow_right (by omega) hs4) (by decide)
  have hfl1 : 1 ≤ fl := by rw [hfl]; exact Nat.two_pow_pos _
  rw [← hfl] at hf ⊢
  have hmid : PMid L fl 1 L := ⟨rfl, rfl, rfl, rfl, fun v h1 h2 => by rw [if_neg (by omega), hz, List.getD_eq_getElem?_getD, List.getElem?_replicate, if_pos h2]; rfl⟩
  have hsz := h.treeB
  clear hfl hs hs4 hz
  go_enter Try.func66, Try.ntmps66
  go_wp2_with fail
  refine hf.mono ?_
  rintro e w1 ⟨rfl, rfl⟩
  clear hf
  go_wp2_with fail
  go_loopw [3] (fun i wr => ∃ (k : Nat) (L' : PLay), 1 ≤ k ∧ k ≤ 2 * fl ∧ i = .int .i64 k ∧ PRep wr B L' ∧ PMid L fl k L' ∧ Below B w1 wr) (fun i _ => 32 - (intOf i).toNat)
  case atStart => exact ⟨1, L, by omega, by omega, rfl, h, hmid, Below.refl _ _⟩
  case round =>
    obtain ⟨k, L', hk1, hk, rfl, hrep, hm, hbr⟩ := hrel
    by_cases hlt : k < 2 * fl
    · have hlt32 : k < 32 := by omega
      have hkl : k < L'.nodes.length := by rw [hrep.len]; omega
      have HTH : Hid (∀ n : PN, wr.there L.tb (8 + k * 21) (pnCells n).toArray.size) := fun n => by have := hrep.there k hkl; rw [hm.tb] at this; rw [pn_size]; exact this
      have HSZ : Hid (∀ n : PN, (Try.prog.info? 74).map (·.size) = some (pnCells n).toArray.size) := fun n => by rw [pn_size]; exact Try.size74
      have hlt' : (k : Int) < 2 * fl := by omega
      by_cases hin : k < fl
      · have hnew : innerPN = newPN fl k := by simp [newPN, hin]
        have hrep2 := hrep.setNode k hkl innerPN (World.ownsRow_nil _ _ _ _) rfl
        have hm2 := hm.step hrep.len hlt32 innerPN hnew
        have hb2 := below_setCells L'.tb hrep.treeB (pnCells innerPN) (8 + k * 21) wr hbr
        rw [hm.tb] at hrep2 hb2 hm2
        replace hrep2 : Hid _ := hrep2
        replace hb2 : Hid _ := hb2
        clear hnew hrep hbr hm
        go_wp2_with (with_reducible refine wpList_store_mid rfl 74 (.tmp 28) (.tmp 25) rfl L.tb (8 + k * 21) (pnCells innerPN).toArray ?hx ?hy (HTH.out innerPN) (HSZ.out innerPN) (pn_one innerPN ⟨_, _, _, rfl⟩) ?_)
        case hx => rfl
        case hy => rfl
        go_wp2
        go_roundw
        case rel => exact ⟨k + 1, _, by omega, by omega, by go_num, hrep2, hm2, hb2⟩
        case measure => simp [intOf]; omega
      · have hnew : leafPN = newPN fl k := by simp [newPN, hin, hlt]
        have hrep2 := hrep.setNode k hkl leafPN (World.ownsRow_nil _ _ _ _) rfl
        have hm2 := hm.step hrep.len hlt32 leafPN hnew
        have hb2 := below_setCells L'.tb hrep.treeB (pnCells leafPN) (8 + k * 21) wr hbr
        rw [hm.tb] at hrep2 hb2 hm2
        replace hrep2 : Hid _ := hrep2
        replace hb2 : Hid _ := hb2
        clear hnew hrep hbr hm
        go_wp2_with (with_reducible refine wpList_store_mid rfl 74 (.tmp 34) (.tmp 31) rfl L.tb (8 + k * 21) (pnCells leafPN).toArray ?hx ?hy (HTH.out leafPN) (HSZ.out leafPN) (pn_one leafPN ⟨_, _, _, rfl⟩) ?_)
        case hx => rfl
        case hy => rfl
        go_wp2
        go_roundw
        case rel => exact ⟨k + 1, _, by omega, by omega, by go_num, hrep2, hm2, hb2⟩
        case measure => simp [intOf]; omega
    · have e : k = 2 * fl := by omega
      have hm32 : PMid L fl 32 L' := ⟨hm.tb, hm.c, hm.pv, hm.procs, fun v h1 h2 => by
        rw [hm.nodes v h1 h2, if_pos h2]
        by_cases h3 : v < k
        · rw [if_pos h3]
        · rw [if_neg h3]; simp [newPN, show ¬ v < fl from by omega, show ¬ v < 2 * fl from by omega]⟩
      have hd : decide ((k : Int) < 2 * fl) = false := by simp; omega
      go_wp2_with fail
      go_end0
      exact ⟨rfl, ⟨L', hrep, hm32⟩, hbr⟩

end Go.Proofs.Ytjnmpejcegmkhaa
