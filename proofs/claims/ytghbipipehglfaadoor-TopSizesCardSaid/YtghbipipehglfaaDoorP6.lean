/- Plain: sets of indexes as numbers: the elements in order, how many there are, the least one. -/
import Derived.Lib.TrailingZeros
namespace Go.Proofs.YtghbipipehglfaaDoor.Pl

/-- the elements of m that are less than n, in order -/
def els (m n : Nat) : List Nat := (List.range n).filter fun i => m.testBit i
theorem els_zero (m : Nat) : els m 0 = [] := rfl
theorem els_succ (m n : Nat) : els m (n + 1) = els m n ++ (if m.testBit n = true then [n] else []) := by
  unfold els
  rw [List.range_succ, List.filter_append]
  congr 1
  by_cases h : m.testBit n = true <;> simp [h]
theorem mem_els {m n i : Nat} : i ∈ els m n ↔ i < n ∧ m.testBit i = true := by
  unfold els; rw [List.mem_filter, List.mem_range]
/-- nothing lies between: nothing more -/
theorem els_gap {m a b : Nat} (h : a ≤ b) (hg : ∀ j, a ≤ j → j < b → m.testBit j = false) : els m b = els m a := by
  induction b with
  | zero => obtain rfl : a = 0 := by omega
            rfl
  | succ b ih =>
    rcases Nat.lt_or_ge a (b + 1) with h1 | h1
    · rw [els_succ, hg b (by omega) (by omega), ih (by omega) (fun j h2 h3 => hg j h2 (by omega))]; simp
    · obtain rfl : a = b + 1 := by omega
      rfl
theorem els_next {m a t : Nat} (h : a ≤ t) (ht : m.testBit t = true) (hg : ∀ j, a ≤ j → j < t → m.testBit j = false) : els m (t + 1) = els m a ++ [t] := by
  rw [els_succ, els_gap h hg, if_pos ht]
theorem els_len (m n : Nat) : (els m n).length ≤ n := by
  have := List.length_filter_le (fun i => m.testBit i) (List.range n)
  simpa [els] using this
theorem els_lt {m n : Nat} (h : m < 2 ^ n) {k : Nat} (hk : n ≤ k) : els m k = els m n :=
  els_gap hk fun j h1 _ => Nat.testBit_lt_two_pow (Nat.lt_of_lt_of_le h (Nat.pow_le_pow_right (by omega) h1))
theorem els_nodup (m n : Nat) : (els m n).Nodup := List.Pairwise.filter _ List.nodup_range

/-- left: what is not below k -/
def Up (s k left : Nat) : Prop := ∀ j, left.testBit j = (s.testBit j && decide (k ≤ j))
theorem Up.start (s : Nat) : Up s 0 s := fun j => by simp
theorem Up.none {s k n : Nat} (h : Up s k 0) (hn : s < 2 ^ n) : els s k = els s n := by
  rcases Nat.le_total k n with h1 | h1
  · refine (els_gap h1 fun j h2 _ => ?_).symm
    have := h j
    simpa [h2] using this.symm
  · exact els_lt hn h1
theorem Up.le {s k left : Nat} (h : Up s k left) : left ≤ s := by
  have : left &&& s = left := Nat.eq_of_testBit_eq fun j => by rw [Nat.testBit_and, h j]; cases s.testBit j <;> simp
  rw [← this]; exact Nat.and_le_right
theorem ctz_bits {x k m : Nat} (h : x = 2 ^ k * (2 * m + 1)) : x.testBit k = true ∧ (∀ j, j < k → x.testBit j = false) ∧ ∀ j, (x &&& (x - 1)).testBit j = (x.testBit j && decide (k + 1 ≤ j)) := by
  have h1 : ∀ j, x.testBit j = (decide (k ≤ j) && (2 * m + 1).testBit (j - k)) := fun j => by
    rw [h, Nat.mul_comm, Nat.testBit_mul_two_pow]
  have h2 : ∀ j, (x - 1).testBit j = if j < k then true else (2 * m).testBit (j - k) := fun j => by
    have e : x - 1 = 2 ^ k * (2 * m) + (2 ^ k - 1) := by
      have := Nat.two_pow_pos k
      rw [h, Nat.mul_add]; omega
    rw [e, Nat.testBit_two_pow_mul_add _ (by have := Nat.two_pow_pos k; omega)]
    split
    · rename_i hj; rw [Nat.testBit_two_pow_sub_one]; simpa using hj
    · rfl
  refine ⟨by rw [h1]; simp [Nat.testBit_zero], fun j hj => by rw [h1]; simp; omega, fun j => ?_⟩
  rw [Nat.testBit_and, h1, h2]
  by_cases hj : j < k
  · simp [show ¬ k ≤ j by omega]
  · rw [if_neg hj]
    by_cases he : j = k
    · subst he; simp [Nat.testBit_zero]
    · obtain ⟨d, hd⟩ : ∃ d, j - k = d + 1 := ⟨j - k - 1, by omega⟩
      rw [hd, Nat.testBit_succ, Nat.testBit_succ]
      have e1 : (2 * m + 1) / 2 = m := by omega
      have e2 : 2 * m / 2 = m := by omega
      rw [e1, e2]
      rw [decide_eq_true (show k ≤ j by omega), decide_eq_true (show k + 1 ≤ j by omega)]
      cases m.testBit d <;> rfl
/-- one step of the walk through a set -/
theorem Up.step {s k left : Nat} (h : Up s k left) (h0 : left ≠ 0) (hs : left < 2 ^ 64) :
    Lib.ctz 64 left < 64 ∧ els s (Lib.ctz 64 left + 1) = els s k ++ [Lib.ctz 64 left] ∧ Up s (Lib.ctz 64 left + 1) (left &&& (left - 1)) ∧ s.testBit (Lib.ctz 64 left) = true ∧ left &&& (left - 1) < left := by
  have hc : Lib.ctz 64 left = Lib.ctzFrom 64 left := if_neg h0
  obtain ⟨m, hm, hk⟩ := Lib.ctzFrom_spec 64 left (by omega) hs
  rw [hc]
  generalize Lib.ctzFrom 64 left = t at *
  obtain ⟨b1, b2, b3⟩ := ctz_bits hm
  have hst := h t
  rw [b1] at hst
  have hst' : s.testBit t = true ∧ k ≤ t := by
    have := hst.symm
    rwa [Bool.and_eq_true, decide_eq_true_eq] at this
  refine ⟨hk, els_next hst'.2 hst'.1 fun j h1 h2 => ?_, fun j => ?_, hst'.1, ?_⟩
  · have := h j
    rw [b2 j h2] at this
    simpa [h1] using this.symm
  · rw [b3, h j]
    by_cases h1 : t + 1 ≤ j
    · simp [h1, show k ≤ j by omega]
    · simp [h1]
  · have := @Nat.and_le_right left (left - 1)
    omega

/-- how many elements -/
def cnt (m : Nat) : Nat := (els m 64).length
theorem cnt_le {m n : Nat} (h : m < 2 ^ n) (hn : n ≤ 64) : cnt m ≤ n := by
  unfold cnt
  rw [els_lt h hn]; exact els_len m n

/-- the union of the sets of a list of indexes -/
def unl (F : Nat → Nat) (l : List Nat) : Nat := l.foldl (fun a i => a ||| F i) 0
theorem unl_snoc (F : Nat → Nat) (l : List Nat) (i : Nat) : unl F (l ++ [i]) = unl F l ||| F i := by simp [unl]
theorem foldl_bit (F : Nat → Nat) (j : Nat) : ∀ (l : List Nat) (a : Nat), (l.foldl (fun a i => a ||| F i) a).testBit j = (a.testBit j || l.any fun i => (F i).testBit j)
  | [], a => by simp
  | i :: l, a => by rw [List.foldl_cons, foldl_bit F j l, Nat.testBit_or, List.any_cons, Bool.or_assoc]
theorem unl_bit (F : Nat → Nat) (l : List Nat) (j : Nat) : (unl F l).testBit j = l.any fun i => (F i).testBit j := by
  unfold unl; rw [foldl_bit]; simp
theorem unl_lt {F : Nat → Nat} {h : Nat} : ∀ {l : List Nat}, (∀ i ∈ l, F i < 2 ^ h) → unl F l < 2 ^ h := by
  intro l hl
  apply Nat.lt_of_not_le
  intro hle
  obtain ⟨j, hj, hb⟩ := Nat.exists_ge_and_testBit_of_ge_two_pow hle
  rw [unl_bit, List.any_eq_true] at hb
  obtain ⟨i, hi, hb⟩ := hb
  rw [Nat.testBit_lt_two_pow (Nat.lt_of_lt_of_le (hl i hi) (Nat.pow_le_pow_right (by omega) hj))] at hb
  cases hb
theorem full_iff {u h : Nat} (hu : u < 2 ^ h) : u = 2 ^ h - 1 ↔ ∀ j, j < h → u.testBit j = true := by
  constructor
  · rintro rfl j hj; rw [Nat.testBit_two_pow_sub_one]; simpa using hj
  · intro hh
    refine Nat.eq_of_testBit_eq fun j => ?_
    rw [Nat.testBit_two_pow_sub_one]
    by_cases hj : j < h
    · simpa [hj] using hh j hj
    · simpa [hj] using Nat.testBit_lt_two_pow (Nat.lt_of_lt_of_le hu (Nat.pow_le_pow_right (by omega) (by omega)))
end Go.Proofs.YtghbipipehglfaaDoor.Pl
