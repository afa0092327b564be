/- Plain: chances in lowest terms, how fractions are compared, the errors. -/
import Derived.Test.YtfkhlglagokodaaP1
namespace Go.Proofs.Ytfkhlglagokodaa.Pl

/-- a plan -/
structure Pn where
  s : Int
  a : Int
/-- C(n, k), also for k below 0 -/
def chz (n : Nat) (k : Int) : Nat := if k < 0 then 0 else ch n k.toNat
/-- accepted samples, all samples, and the chance -/
def nm (s a lot bad : Nat) : Nat := sm (wy bad (lot - bad) s) (a + 1)
def dv (s a lot bad : Nat) : Nat := Nat.gcd (nm s a lot bad) (ch lot s)
def cn (s a lot bad : Nat) : Nat := nm s a lot bad / dv s a lot bad
def cd (s a lot bad : Nat) : Nat := ch lot s / dv s a lot bad
theorem nm_le {s a lot bad : Nat} (hb : bad ≤ lot) (ha : a < s) : nm s a lot bad ≤ ch lot s := by
  have := wy_part (b := bad) (m := lot - bad) (s := s) (k := a + 1) (by omega)
  rwa [show bad + (lot - bad) = lot from by omega] at this
theorem dv_pos {s a lot bad : Nat} (hs : s ≤ lot) : 0 < dv s a lot bad := Nat.gcd_pos_of_pos_right _ (ch_pos hs)
theorem cn_mul (s a lot bad : Nat) : nm s a lot bad = cn s a lot bad * dv s a lot bad := (Nat.div_mul_cancel (Nat.gcd_dvd_left _ _)).symm
theorem cd_mul (s a lot bad : Nat) : ch lot s = cd s a lot bad * dv s a lot bad := (Nat.div_mul_cancel (Nat.gcd_dvd_right _ _)).symm
theorem cd_pos {s a lot bad : Nat} (hs : s ≤ lot) : 0 < cd s a lot bad := Nat.pos_of_ne_zero fun z => by
  have h := cd_mul s a lot bad
  rw [z, Nat.zero_mul] at h
  have := ch_pos hs
  omega
theorem cn_le {s a lot bad : Nat} (hb : bad ≤ lot) (ha : a < s) : cn s a lot bad ≤ cd s a lot bad := Nat.div_le_div_right (nm_le hb ha)
theorem cd_big {s a lot bad : Nat} (hl : lot ≤ 60) : cd s a lot bad ≤ 118264581564861424 := Nat.le_trans (Nat.div_le_self _ _) (ch_le hl _)
theorem cn_one {s a lot bad : Nat} (hb : bad ≤ lot) (ha : a < s) (h : bad ≤ a) : cn s a lot bad = cd s a lot bad := by
  unfold cn cd nm
  rw [wy_few h (by omega), show bad + (lot - bad) = lot from by omega]
/-- less of one whole -/
theorem frac_nm {s s' a a' lot bad bad' : Nat} (hs : s ≤ lot) (e : s' = s) : (cn s a lot bad * cd s' a' lot bad' ≤ cn s' a' lot bad' * cd s a lot bad ↔ nm s a lot bad ≤ nm s' a' lot bad') := by
  subst e
  exact frac_le (ch_pos hs) (cn_mul ..) (cd_mul ..) (cn_mul ..) (cd_mul ..)
theorem nm_fall {s a lot bad : Nat} (hb : bad < lot) (ha : a < s) : nm s a lot (bad + 1) ≤ nm s a lot bad := by
  unfold nm
  obtain ⟨m, rfl⟩ : ∃ m, lot = bad + 1 + m := ⟨lot - bad - 1, by omega⟩
  rw [show bad + 1 + m - (bad + 1) = m from by omega, show bad + 1 + m - bad = m + 1 from by omega]
  exact wy_less ha
theorem nm_acc (s a lot bad : Nat) : nm s a lot bad ≤ nm s (a + 1) lot bad := sm_le _ (by omega)
/-- the step of Euclid -/
theorem gcd_step (a b : Nat) : Nat.gcd b (a % b) = Nat.gcd a b := by rw [Nat.gcd_comm a b, Nat.gcd_comm b (a % b)]; exact (Nat.gcd_rec b a).symm

/-- -1, 0, 1 -/
def cmp (x y : Nat) : Int := if x < y then -1 else if x = y then 0 else 1
theorem cmp_lt {x y : Nat} (h : x < y) : cmp x y = -1 := if_pos h
theorem cmp_eq {x y : Nat} (h : x = y) : cmp x y = 0 := by unfold cmp; rw [if_neg (by omega), if_pos h]
theorem cmp_gt {x y : Nat} (h : y < x) : cmp x y = 1 := by unfold cmp; rw [if_neg (by omega), if_neg (by omega)]
theorem cmp_le {x y : Nat} : cmp x y ≤ 0 ↔ x ≤ y := by unfold cmp; split <;> (try split) <;> omega
theorem cmp_gt' {x y : Nat} : 0 < cmp x y ↔ y < x := by unfold cmp; split <;> (try split) <;> omega
theorem cmp_bd (x y : Nat) : -1 ≤ cmp x y ∧ cmp x y ≤ 1 := by unfold cmp; split <;> (try split) <;> omega
theorem cmp_congr {x y x' y' : Nat} (h1 : x < y ↔ x' < y') (h2 : x = y ↔ x' = y') : cmp x y = cmp x' y' := by
  unfold cmp
  by_cases a : x < y
  · rw [if_pos a, if_pos (h1.1 a)]
  · rw [if_neg a, if_neg (fun h => a (h1.2 h))]
    by_cases b : x = y
    · rw [if_pos b, if_pos (h2.1 b)]
    · rw [if_neg b, if_neg (fun h => b (h2.2 h))]
/-- two words: the higher ones first -/
theorem cmp_words (x y K : Nat) (hK : 0 < K) : (if cmp (x / K) (y / K) ≠ 0 then cmp (x / K) (y / K) else cmp (x % K) (y % K)) = cmp x y := by
  have hx := Nat.div_add_mod x K
  have hy := Nat.div_add_mod y K
  have hx2 := Nat.mod_lt x hK
  have hy2 := Nat.mod_lt y hK
  rcases Nat.lt_trichotomy (x / K) (y / K) with h | h | h
  · rw [cmp_lt h, if_pos (by decide)]
    refine (cmp_lt ?_).symm
    have := Nat.mul_le_mul_left K (show x / K + 1 ≤ y / K from h)
    rw [Nat.mul_add, Nat.mul_one] at this
    omega
  · rw [cmp_eq h, if_neg (by decide)]
    rw [h] at hx
    exact cmp_congr (by omega) (by omega)
  · rw [cmp_gt h, if_pos (by decide)]
    refine (cmp_gt ?_).symm
    have := Nat.mul_le_mul_left K (show y / K + 1 ≤ x / K from h)
    rw [Nat.mul_add, Nat.mul_one] at this
    omega
/-- by whole parts first -/
theorem ord_lt {a b c d : Nat} (hb : 0 < b) (h : a / b < c / d) : cmp (a * d) (c * b) = -1 := by
  refine cmp_lt ?_
  have hd : 0 < d := Nat.pos_of_ne_zero fun z => by rw [z, Nat.div_zero] at h; exact absurd h (Nat.not_lt_zero _)
  have h1 : a < (a / b + 1) * b := by have := Nat.div_add_mod a b; have := Nat.mod_lt a hb; rw [Nat.add_mul, Nat.one_mul, Nat.mul_comm]; omega
  have h2 : (a / b + 1) * b ≤ c / d * b := Nat.mul_le_mul_right b h
  have h3 : c / d * d ≤ c := Nat.div_mul_le_self c d
  have h4 : a * d < c / d * b * d := Nat.mul_lt_mul_of_pos_right (Nat.lt_of_lt_of_le h1 h2) hd
  have h5 : c / d * b * d = c / d * d * b := by simp only [Nat.mul_assoc, Nat.mul_comm b d]
  have h6 : c / d * d * b ≤ c * b := Nat.mul_le_mul_right b h3
  omega
theorem ord_gt {a b c d : Nat} (hd : 0 < d) (h : c / d < a / b) : cmp (a * d) (c * b) = 1 := by
  refine cmp_gt ?_
  have := ord_lt hd h
  unfold cmp at this
  by_cases e : c * b < a * d
  · exact e
  · rw [if_neg e] at this; split at this <;> omega
theorem ord_eq {a b c d : Nat} (h : a / b = c / d) : cmp (a * d) (c * b) = cmp (a % b * d) (c % d * b) := by
  have h1 := Nat.div_add_mod a b
  have h2 := Nat.div_add_mod c d
  have e1 : a * d = b * (c / d) * d + a % b * d := by rw [← Nat.add_mul, ← h, h1]
  have e2 : c * b = b * (c / d) * d + c % d * b := by
    have e3 : b * (c / d) * d = d * (c / d) * b := by simp only [Nat.mul_comm, Nat.mul_left_comm]
    rw [e3, ← Nat.add_mul, h2]
  exact cmp_congr (by omega) (by omega)
/-- where nothing is left on one side -/
theorem ord_zero {b d r s : Nat} (hb : 0 < b) (hd : 0 < d) (h : r = 0 ∨ s = 0) : cmp (r * d) (s * b) = min (r : Int) 1 - min (s : Int) 1 := by
  rcases h with rfl | rfl
  · rw [Nat.zero_mul]
    rcases Nat.eq_zero_or_pos s with rfl | hs
    · rw [Nat.zero_mul]; rfl
    · rw [cmp_lt (Nat.mul_pos hs hb)]; omega
  · rw [Nat.zero_mul]
    rcases Nat.eq_zero_or_pos r with rfl | hs
    · rw [Nat.zero_mul]; rfl
    · rw [cmp_gt (Nat.mul_pos hs hd)]; omega
end Go.Proofs.Ytfkhlglagokodaa.Pl
