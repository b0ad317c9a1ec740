/- Contracts of package prismkeep's up, still and even. No statement of the seat is proved here. -/
import Derived.Test.YtjnmpejcegmkhaaEvenP
import Derived.Test.YtjnmpejcegmkhaaIns0
import Derived.Deep.DeepCutAuto
import Derived.Deep.QuietTactic
import Derived.BigQuiet
namespace Go.Proofs.Ytjnmpejcegmkhaa
open Go.RowKit

theorem tdiv_neg' (x : Int) (hx : x < 0) (W : Int) : x.tdiv W = -((-x) / W) ∧ x.tmod W = -((-x) % W) := by
  have e : x = -(-x) := by omega
  constructor
  · conv => lhs; rw [e]
    rw [Int.neg_tdiv, Int.tdiv_eq_ediv_of_nonneg (by omega)]
  · conv => lhs; rw [e]
    rw [Int.neg_tmod, Int.tmod_eq_emod_of_nonneg (by omega)]

set_option maxHeartbeats 4000000 in
theorem kup_c (x s : Int) (d : Nat) (hd : d ≤ 4) (h1 : (s - 1) * 2 ^ d < x) (h2 : x ≤ s * 2 ^ d) (hx : -100000 ≤ x ∧ x ≤ 100000) (w : World) : Calls Try.prog 52 #[I x, I (2 ^ d : Nat)] w fun e w' => e = .returned (I s) ∧ w' = w := by
  have hdd : d = 0 ∨ d = 1 ∨ d = 2 ∨ d = 3 ∨ d = 4 := by omega
  by_cases h0 : 0 ≤ x
  · have hneg : decide (x < 0) = false := decide_eq_false (by omega)
    rcases hdd with rfl | rfl | rfl | rfl | rfl
    all_goals
      simp at h1 h2
      have H1 : Hid _ := h1
      have H2 : Hid _ := h2
      clear h1 h2
      go_enter Try.func52, Try.ntmps52
      go_wp2_with fail
      all_goals go_ret
      all_goals
        have q1 := H1.out
        have q2 := H2.out
        exact ⟨ret_i (by omega), rfl⟩
  · have hneg : decide (x < 0) = true := decide_eq_true (by omega)
    rcases hdd with rfl | rfl | rfl | rfl | rfl
    · simp at h1 h2
      have H1 : Hid _ := h1
      have H2 : Hid _ := h2
      obtain ⟨d1, d2⟩ := tdiv_neg' x (by omega) 1
      have bt : decide (0 < x.tmod 1) = false := decide_eq_false (by rw [d2]; omega)
      replace d1 : Hid _ := d1
      clear h1 h2 d2
      go_enter Try.func52, Try.ntmps52
      go_wp2_with fail
      go_ret
      have q1 := H1.out
      have q2 := H2.out
      have q3 := d1.out
      exact ⟨ret_i (by omega), rfl⟩
    · simp at h1 h2
      have H1 : Hid _ := h1
      have H2 : Hid _ := h2
      obtain ⟨d1, d2⟩ := tdiv_neg' x (by omega) 2
      have bt : decide (0 < x.tmod 2) = false := decide_eq_false (by rw [d2]; omega)
      replace d1 : Hid _ := d1
      clear h1 h2 d2
      go_enter Try.func52, Try.ntmps52
      go_wp2_with fail
      go_ret
      have q1 := H1.out
      have q2 := H2.out
      have q3 := d1.out
      exact ⟨ret_i (by omega), rfl⟩
    · simp at h1 h2
      have H1 : Hid _ := h1
      have H2 : Hid _ := h2
      obtain ⟨d1, d2⟩ := tdiv_neg' x (by omega) 4
      have bt : decide (0 < x.tmod 4) = false := decide_eq_false (by rw [d2]; omega)
      replace d1 : Hid _ := d1
      clear h1 h2 d2
      go_enter Try.func52, Try.ntmps52
      go_wp2_with fail
      go_ret
      have q1 := H1.out
      have q2 := H2.out
      have q3 := d1.out
      exact ⟨ret_i (by omega), rfl⟩
    · simp at h1 h2
      have H1 : Hid _ := h1
      have H2 : Hid _ := h2
      obtain ⟨d1, d2⟩ := tdiv_neg' x (by omega) 8
      have bt : decide (0 < x.tmod 8) = false := decide_eq_false (by rw [d2]; omega)
      replace d1 : Hid _ := d1
      clear h1 h2 d2
      go_enter Try.func52, Try.ntmps52
      go_wp2_with fail
      go_ret
      have q1 := H1.out
      have q2 := H2.out
      have q3 := d1.out
      exact ⟨ret_i (by omega), rfl⟩
    · simp at h1 h2
      have H1 : Hid _ := h1
      have H2 : Hid _ := h2
      obtain ⟨d1, d2⟩ := tdiv_neg' x (by omega) 16
      have bt : decide (0 < x.tmod 16) = false := decide_eq_false (by rw [d2]; omega)
      replace d1 : Hid _ := d1
      clear h1 h2 d2
      go_enter Try.func52, Try.ntmps52
      go_wp2_with fail
      go_ret
      have q1 := H1.out
      have q2 := H2.out
      have q3 := d1.out
      exact ⟨ret_i (by omega), rfl⟩

theorem KSt.wentAt {w : World} {B hb : Nat} {c : Conf} {S : Gh} {P : PLay} (h : KSt w B hb c S P) : ∃ ao cap, w.cell? ⟨hb, 10, none⟩ = some (.slice ao S.L.procs.length cap) ∧ S.L.procs.length ≤ cap ∧ cap ≤ maxLen ∧ ∀ p, (hp : p < S.went.length) → ∃ g, ao = some ⟨g, 0, none⟩ ∧ g < w.heap.size ∧ w.cell? ⟨g, p, none⟩ = some (.bool S.went[p]) := by
  obtain ⟨ov, wv, a, _, b⟩ := h.rep.blk
  obtain ⟨ao, cap, e1, q1, q2, q3, hc⟩ := ownsRow_cells b
  have hl := h.of.wlen
  refine ⟨ao, cap, ?_, by omega, q3, fun p hp => ?_⟩
  · rw [(nb_facts a).1 10, ← hl, ← e1]
    rfl
  · obtain ⟨g, e, _, cg⟩ := hc p (.bool S.went[p]) (by simp [hp])
    exact ⟨g, e, cell_lt cg, cg⟩
theorem KSt.opsAt2 {w : World} {B hb : Nat} {c : Conf} {S : Gh} {P : PLay} (h : KSt w B hb c S P) : ∃ ao cap, w.cell? ⟨hb, 9, none⟩ = some (.slice ao S.L.procs.length cap) ∧ S.L.procs.length ≤ cap ∧ S.L.procs.length ≤ 256 ∧ cap ≤ maxLen ∧ ∀ p, (hp : p < S.L.procs.length) → ∃ g, ao = some ⟨g, 0, none⟩ ∧ g < w.heap.size ∧ w.cell? ⟨g, p * 3, none⟩ = some (I (S.L.procs[p]).2.kind) := by
  obtain ⟨ov, wv, a, b, _⟩ := h.rep.blk
  obtain ⟨ao, cap, e1, q1, q2, q3, hc⟩ := ownsRow_cells b
  have hl : S.ops.length = S.L.procs.length := h.rep.len.trans h.rel.plen
  refine ⟨ao, cap, ?_, by omega, h.rel.rel.np, q3, fun p hp => ?_⟩
  · rw [(nb_facts a).1 9, ← hl, ← e1]
    rfl
  · have hpo : p < S.ops.length := by omega
    have ek : (S.ops[p]).kind = (S.L.procs[p]).2.kind := by
      have e := h.of.op
      have : S.ops[p]? = (opsL S.L)[p]? := by rw [e]
      rw [List.getElem?_eq_getElem hpo] at this
      simp [opsL, toPPs, hp, ppOp, toPP] at this
      rw [this]
    obtain ⟨g, e, _, cg⟩ := hc (p * 3 + 0) (I (S.L.procs[p]).2.kind) (by
      show (S.ops.flatMap opCells)[p * 3 + 0]? = _
      rw [flat_at opCells 3 (fun _ => rfl) S.ops p hpo 0 (by omega), ← ek]
      rfl)
    exact ⟨g, e, cell_lt cg, cg⟩

def StillW (S : Gh) : Prop := ∀ p, (hp : p < S.L.procs.length) → (hp' : p < S.went.length) → S.went[p] = true → arrived (toPP (S.L.procs[p]).2)

theorem StillW.still {w : World} {B hb : Nat} {c : Conf} {S : Gh} {P : PLay} (h : KSt w B hb c S P) (hs : StillW S) : Still S.L := by
  intro i hi
  have hi' : i < S.went.length := by have := h.of.wlen; omega
  cases hw : S.went[i]
  · obtain ⟨a, b, _⟩ := h.of.new i hi hi' hw
    right
    refine ⟨b, ?_⟩
    rw [a]
    unfold newPr
    simp only
    split
    · exact Or.inr rfl
    · exact Or.inl rfl
  · exact Or.inl (hs i hi hi' hw)

/-- What has gone in, of the first k. -/
def goneTo (S : Gh) : Nat → Int
  | 0 => 0
  | k + 1 => goneTo S k + (if S.went.getD k false = true then sgn ((S.L.procs.getD k (0, newPr ⟨0, 0, 0⟩)).2.kind) else 0)
theorem goneTo_le (S : Gh) : ∀ k : Nat, -(k : Int) ≤ goneTo S k ∧ goneTo S k ≤ k
  | 0 => by simp [goneTo]
  | k + 1 => by
    have := goneTo_le S k
    simp only [goneTo]
    split
    · unfold sgn
      split
      · push_cast; omega
      · split
        · push_cast; omega
        · push_cast; omega
    · push_cast; omega

theorem sumP_take (f : Pr → Int) (ps : Ps) : ∀ k, (hk : k < ps.length) → sumP f (ps.take (k + 1)) = sumP f (ps.take k) + f (ps[k]).2 := by
  intro k hk
  rw [take_succ_get ps k hk, sumP_one]

theorem gone_bal {w : World} {B hb : Nat} {c : Conf} {S : Gh} {P : PLay} (h : KSt w B hb c S P) (x : XOk c S.L) (hs : StillW S) : balS S.L = goneTo S S.L.procs.length := by
  have ht := x.tot
  unfold TotOk at ht
  have key : ∀ k, k ≤ S.L.procs.length → sumP (fun p => sgn p.kind) (S.L.procs.take k) - sumP (tokP S.L.procs) (S.L.procs.take k) = goneTo S k := by
    intro k
    induction k with
    | zero => intro _; simp [sumP, goneTo]
    | succ k ih =>
      intro hk
      have hk' : k < S.L.procs.length := by omega
      have hkw : k < S.went.length := by have := h.of.wlen; omega
      rw [sumP_take _ _ k hk', sumP_take _ _ k hk']
      have ih' := ih (by omega)
      simp only [goneTo]
      have e1 : S.went.getD k false = S.went[k] := by simp [List.getD_eq_getElem?_getD, hkw]
      have e2 : S.L.procs.getD k (0, newPr ⟨0, 0, 0⟩) = S.L.procs[k] := by simp [List.getD_eq_getElem?_getD, hk']
      rw [e1, e2]
      cases hw : S.went[k]
      · obtain ⟨a, b, _⟩ := h.of.new k hk' hkw hw
        have hx : (S.L.procs[k]).2.phase = 0 ∨ ((S.L.procs[k]).2.phase = 15 ∧ 3 ≤ (S.L.procs[k]).2.kind) := by
          rw [a]
          unfold newPr
          simp only
          split
          · rename_i hc
            right
            refine ⟨rfl, ?_⟩
            have := hc.1
            unfold isChange at this
            simp at this
            omega
          · exact Or.inl rfl
        have e3 : tokP S.L.procs (S.L.procs[k]).2 = sgn (S.L.procs[k]).2.kind := by
          rcases hx with y | ⟨y, z⟩
          · rw [tokP_lo (by omega), if_pos (by omega)]
          · rw [tokP_ch z]
            unfold sgn
            rw [if_neg (by omega), if_neg (by omega)]
        rw [e3]
        simp
        omega
      · have y := hs k hk' hkw hw
        have y' : (S.L.procs[k]).2.phase = 13 ∨ (S.L.procs[k]).2.phase = 14 ∨ (S.L.procs[k]).2.phase = 19 ∨ (S.L.procs[k]).2.phase = 20 := y
        have e3 : tokP S.L.procs (S.L.procs[k]).2 = 0 := by rw [tokP_lo (by omega), if_neg (by omega)]
        rw [e3]
        simp
        omega
  have := key S.L.procs.length (Nat.le_refl _)
  rw [List.take_length] at this
  omega

end Go.Proofs.Ytjnmpejcegmkhaa
