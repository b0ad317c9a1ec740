/- How long a process may still be on its way (P15), of the document's tree alone. No statement of the seat is proved here. -/
import Derived.Test.YtjnmpejcegmkhaaInsPure
namespace Go.Proofs.Ytjnmpejcegmkhaa
open Go.RowKit

/-- A walker's way from before a node, k levels above the deepest. -/
def AA (D : Nat) (s : Int) : Nat → Int
  | 0 => (D : Int) + 5
  | k + 1 => AA D s k + s + 8
theorem AA_ge (D : Nat) (s : Int) (hs : 0 ≤ s) : ∀ k, (D : Int) + 5 ≤ AA D s k
  | 0 => Int.le_refl _
  | k + 1 => by have := AA_ge D s hs k; simp only [AA]; omega
theorem AA_down (D : Nat) (s : Int) {d : Nat} (h : d < D) : AA D s (D - d) = AA D s (D - (d + 1)) + s + 8 := by
  have e : D - d = (D - (d + 1)) + 1 := by omega
  rw [e]
  rfl
def baseW (D : Nat) (s r k : Int) (d : Nat) : Int := if k < 3 then AA D s (D - d) else 2 * ((D : Int) - d) + D + r + 7

/-- How many rounds a process has before it, but for shut gates. -/
def work (D : Nat) (s r : Int) (sh : Bool) (k ph pat : Int) (d : Nat) : Int :=
  if ph = 0 then (if sh = true then baseW D s r k d - 1 else baseW D s r k d)
  else if ph = 1 then baseW D s r k d - 1
  else if ph = 2 then (if sh = true then baseW D s r k d - 1 else baseW D s r k d + 1)
  else if ph = 3 then AA D s (D - d) - 2
  else if ph = 4 then AA D s (D - d) - 3
  else if ph = 5 then AA D s (D - d) - 4
  else if ph = 6 then AA D s (D - (d + 1)) + 3 + pat
  else if ph = 7 then AA D s (D - (d + 1)) + 1
  else if ph = 8 then AA D s (D - (d + 1)) + 3
  else if ph = 9 then AA D s (D - (d + 1)) + 2
  else if ph = 10 then AA D s (D - (d + 1)) + 2
  else if ph = 11 then AA D s (D - (d + 1)) + 1
  else if ph = 12 then D + 3
  else if ph = 13 then D + 2
  else if ph = 14 then D + 2
  else if ph = 15 then D + r + 5
  else if ph = 16 then D + 4 + pat
  else if ph = 17 then D + 3
  else if ph = 18 then D + 3
  else if ph = 19 then d + 1
  else 0

/-- How long others may still be held up by it. -/
def holdW (r k ph pat : Int) : Int :=
  if ph = 16 then pat + 5 else if ph = 17 then 4 else if ph = 18 then 4 else if ph = 15 then r + 6
  else if 3 ≤ k ∧ (ph = 0 ∨ ph = 1 ∨ ph = 2) then r + 6 else 0

/-- Where a process may be, by its kind. -/
structure KP (k ph : Int) : Prop where
  walk : k < 3 → ¬ (15 ≤ ph ∧ ph ≤ 18)
  chg : 3 ≤ k → ph = 0 ∨ ph = 1 ∨ ph = 2 ∨ 15 ≤ ph

set_option maxHeartbeats 4000000 in
theorem work_own {D : Nat} {s r : Int} (hs : 0 ≤ s) (hr : 0 ≤ r) {v : Nat} {a b nd : Int} (hpm : PM v a b nd) (sh sh' : Bool) (k pat pat' : Int) (d d' : Nat) (ka : KP k a) (kb : KP k b) (hdD : d ≤ D) (hd'D : b ≠ 20 → d' ≤ D)
    (hin : 3 ≤ a → a ≤ 11 → d < D) (hd0 : nd = (v : Int) → d' = d) (hd1 : nd / 2 = (v : Int) → d' = d + 1) (hdu : nd = (v : Int) / 2 → (v : Int) / 2 ≠ 0 → d = d' + 1)
    (hsh : a ≤ 2 → b ≤ 2 → nd = (v : Int) → sh' = sh) (h1 : a = 1 → (b = 2 ↔ sh = true)) (h6 : a = 6 → 0 ≤ pat) (h66 : a = 6 → b = 6 → pat' = pat - 1) (h5 : a = 5 → b = 6 → pat' = s) (h15 : a = 15 → b = 16 → pat' = r) (h16 : a = 16 → 0 ≤ pat) (h161 : a = 16 → b = 16 → pat' = pat - 1)
    (hst : ¬ (a = 13 ∧ b = 13) ∧ ¬ (a = 14 ∧ b = 14)) :
    (¬ (a ≤ 2 ∧ sh = true) → work D s r sh' k b pat' d' + 1 ≤ work D s r sh k a pat d) ∧ work D s r sh' k b pat' d' ≤ work D s r sh k a pat d := by
  have g0 := AA_ge D s hs (D - d)
  have g1 := AA_ge D s hs (D - (d + 1))
  have gd := AA_down D s (d := d)
  replace gd : Hid _ := gd
  replace hin : Hid _ := hin
  replace hd0 : Hid _ := hd0
  replace hd1 : Hid _ := hd1
  replace hdu : Hid _ := hdu
  replace hsh : Hid _ := hsh
  replace h1 : Hid _ := h1
  replace h6 : Hid _ := h6
  replace h66 : Hid _ := h66
  replace h5 : Hid _ := h5
  replace h15 : Hid _ := h15
  replace h16 : Hid _ := h16
  replace h161 : Hid _ := h161
  replace hst : Hid _ := hst
  replace hd'D : Hid _ := hd'D
  cases hpm
  case enter =>
    have e := hd0.out rfl
    subst e
    have e2 := hsh.out (by decide) (by decide) rfl
    subst e2
    cases sh' <;> simp [work] <;> omega
  case look hb =>
    have e := hd0.out rfl
    subst e
    have h1' := h1.out rfl
    rcases hb with rfl | rfl | rfl | rfl
    · have e2 := hsh.out (by decide) (by decide) rfl
      have e3 := h1'.1 rfl
      subst e2 e3
      simp [work]
    · have e3 : sh = false := by cases sh; rfl; exact absurd (h1'.2 rfl) (by decide)
      subst e3
      have : k < 3 := Int.not_le.1 fun h => by rcases kb.chg h with x | x | x | x <;> revert x <;> decide
      simp [work, baseW, this]
      omega
    · have e3 : sh = false := by cases sh; rfl; exact absurd (h1'.2 rfl) (by decide)
      subst e3
      have : k < 3 := Int.not_le.1 fun h => by rcases kb.chg h with x | x | x | x <;> revert x <;> decide
      simp [work, baseW, this]
      omega
    · have e3 : sh = false := by cases sh; rfl; exact absurd (h1'.2 rfl) (by decide)
      subst e3
      simp only [work, baseW]
      simp
      split <;> omega
  case lookDown hb hn =>
    have e := hd1.out hn
    have h1' := h1.out rfl
    have hb2 : b ≠ 2 := by rcases hb with rfl | rfl <;> decide
    have e3 : sh = false := by cases sh; rfl; exact absurd (h1'.2 rfl) hb2
    have hdd := hd'D.out (by rcases hb with rfl | rfl <;> decide)
    subst e e3
    have gd' := gd.out (by omega)
    rcases hb with rfl | rfl
    · cases sh' <;> simp [work, baseW] <;> split <;> omega
    · have hk : ¬ k < 3 := fun h => kb.walk h (by decide)
      simp [work, baseW, hk]
      omega
  case back =>
    have e := hd0.out rfl
    subst e
    have e2 := hsh.out (by decide) (by decide) rfl
    subst e2
    cases sh' <;> simp [work] <;> omega
  case wide =>
    have e := hd0.out rfl
    subst e
    simp [work]
    omega
  case slot hb =>
    have e := hd0.out rfl
    subst e
    have gd' := gd.out (hin.out (by decide) (by decide))
    rcases hb with rfl | rfl | rfl <;> simp [work] <;> omega
  case claim hb =>
    have e := hd0.out rfl
    subst e
    have gd' := gd.out (hin.out (by decide) (by decide))
    rcases hb with rfl | rfl
    · have := h5.out rfl rfl
      simp [work]
      omega
    · simp [work]
      omega
  case wait hb =>
    have e := hd0.out rfl
    subst e
    have h6' := h6.out rfl
    rcases hb with rfl | rfl | rfl
    · simp [work]
      omega
    · have := h66.out rfl rfl
      simp [work]
      omega
    · simp [work]
      omega
  case down ha hn =>
    have e := hd1.out hn
    subst e
    have hk : k < 3 := Int.not_le.1 fun h => by rcases ha with rfl | rfl | rfl <;> rcases ka.chg h with x | x | x | x <;> revert x <;> decide
    rcases ha with rfl | rfl | rfl <;> cases sh' <;> simp [work, baseW, hk] <;> omega
  case out ha =>
    have e := hd0.out rfl
    subst e
    rcases ha with rfl | rfl <;> simp [work] <;> omega
  case grow =>
    have e := hd0.out rfl
    subst e
    simp [work]
    omega
  case width ha =>
    have e := hd0.out rfl
    subst e
    rcases ha with rfl | rfl <;> simp [work] <;> omega
  case ticket hb =>
    have e := hd0.out rfl
    subst e
    rcases hb with rfl | rfl | rfl <;> simp [work] <;> omega
  case store hb =>
    have e := hd0.out rfl
    subst e
    rcases hb with rfl | rfl
    · simp [work]
      omega
    · exact absurd ⟨rfl, rfl⟩ hst.out.1
  case fetch hb =>
    have e := hd0.out rfl
    subst e
    rcases hb with rfl | rfl
    · simp [work]
      omega
    · exact absurd ⟨rfl, rfl⟩ hst.out.2
  case shut =>
    have e := hd0.out rfl
    subst e
    have := h15.out rfl rfl
    simp [work]
    omega
  case drain hb =>
    have e := hd0.out rfl
    subst e
    have h16' := h16.out rfl
    rcases hb with rfl | rfl | rfl
    · simp [work]
      omega
    · have := h161.out rfl rfl
      simp [work]
      omega
    · simp [work]
      omega
  case up hv ha =>
    have e := hdu.out rfl hv
    rcases ha with rfl | rfl | rfl | rfl <;> simp [work] <;> omega
  case done hv ha =>
    rcases ha with rfl | rfl | rfl | rfl <;> simp [work] <;> omega

end Go.Proofs.Ytjnmpejcegmkhaa
