/- Plain: the greedy cover. -/
import Derived.Test.YtghbipipehglfaaDoorP8
namespace Go.Proofs.YtghbipipehglfaaDoor.Pl

/-- what of a set is not in another one -/
def wo (a b : Nat) : Nat := a ^^^ (a &&& b)
theorem wo_bit (a b j : Nat) : (wo a b).testBit j = (a.testBit j && !b.testBit j) := by
  unfold wo; rw [Nat.testBit_xor, Nat.testBit_and]; cases a.testBit j <;> cases b.testBit j <;> rfl
theorem wo_le (a b : Nat) : wo a b ≤ a := by
  have : wo a b &&& a = wo a b := Nat.eq_of_testBit_eq fun j => by
    rw [Nat.testBit_and, wo_bit]; cases a.testBit j <;> simp
  rw [← this]; exact Nat.and_le_right
theorem els_part (a b n : Nat) : (els a n).length = (els (a &&& b) n).length + (els (wo a b) n).length := by
  induction n with
  | zero => rfl
  | succ n ih =>
    rw [els_succ, els_succ, els_succ, List.length_append, List.length_append, List.length_append, ih, Nat.testBit_and, wo_bit]
    cases a.testBit n <;> cases b.testBit n <;> simp <;> omega
theorem cnt_part (a b : Nat) : cnt a = cnt (a &&& b) + cnt (wo a b) := els_part a b 64
theorem cnt_zero {m : Nat} (hm : m < 2 ^ 64) : cnt m = 0 ↔ m = 0 := by
  constructor
  · intro h
    refine Nat.eq_of_testBit_eq fun j => ?_
    rw [Nat.zero_testBit]
    rcases Nat.lt_or_ge j 64 with h1 | h1
    · cases e : m.testBit j with
      | false => rfl
      | true =>
        have : j ∈ els m 64 := mem_els.2 ⟨h1, e⟩
        unfold cnt at h
        rw [List.length_eq_zero_iff.1 h] at this
        cases this
    · exact Nat.testBit_lt_two_pow (Nat.lt_of_lt_of_le hm (Nat.pow_le_pow_right (by omega) h1))
  · rintro rfl; exact els0 64

/-- how many of what is left a set has -/
def nw (F : Nat → Nat) (left i : Nat) : Nat := cnt (F i &&& left)
/-- the first of the first k sets that has most of what is left -/
def pk (F : Nat → Nat) (left : Nat) : Nat → Nat
  | 0 => 0
  | k + 1 => if nw F left (pk F left k) < nw F left k then k else pk F left k
theorem pk_lt (F : Nat → Nat) (left : Nat) : ∀ k, pk F left (k + 1) < k + 1
  | 0 => by unfold pk; split <;> simp [pk]
  | k + 1 => by
    have := pk_lt F left k
    rw [pk]
    split <;> omega
theorem pk_max (F : Nat → Nat) (left : Nat) : ∀ k i, i < k → nw F left i ≤ nw F left (pk F left k)
  | 0, i, h => absurd h (Nat.not_lt_zero i)
  | k + 1, i, h => by
    rw [pk]
    rcases Nat.lt_succ_iff_lt_or_eq.1 h with h1 | rfl
    · have := pk_max F left k i h1
      split <;> omega
    · split <;> omega
/-- the same with the number beside it, from 0 on -/
def rbm (F : Nat → Nat) (left : Nat) : Nat → Nat × Nat
  | 0 => (0, 0)
  | k + 1 => if (rbm F left k).2 < nw F left k then (k, nw F left k) else rbm F left k
theorem rbm_eq (F : Nat → Nat) (left : Nat) : ∀ k, rbm F left (k + 1) = (pk F left (k + 1), nw F left (pk F left (k + 1)))
  | 0 => by
    have hp : pk F left 1 = 0 := by unfold pk; split <;> simp [pk]
    rw [hp, rbm]
    split
    · rfl
    · rename_i h
      have h0 : nw F left 0 = 0 := by simp [rbm] at h; exact h
      rw [h0]; rfl
  | k + 1 => by
    have e : pk F left (k + 1 + 1) = if nw F left (pk F left (k + 1)) < nw F left (k + 1) then k + 1 else pk F left (k + 1) := rfl
    rw [rbm, rbm_eq F left k, e]
    simp only
    split <;> rfl
theorem rbm_fst (F : Nat → Nat) (left k : Nat) : (rbm F left k).1 = pk F left k := by
  cases k with
  | zero => rfl
  | succ k => rw [rbm_eq]

def gr (F : Nat → Nat) (n : Nat) : Nat → Nat → List Nat
  | 0, _ => []
  | f + 1, left => if left = 0 then [] else pk F left n :: gr F n f (wo left (F (pk F left n)))
theorem gr_zero (F : Nat → Nat) (n f : Nat) : gr F n f 0 = [] := by cases f <;> simp [gr]
theorem gr_step {F : Nat → Nat} {n f left : Nat} (h : left ≠ 0) : gr F n (f + 1) left = pk F left n :: gr F n f (wo left (F (pk F left n))) := by rw [gr, if_neg h]
/-- the first n sets cover all of it -/
def Cb (F : Nat → Nat) (n left : Nat) : Prop := ∀ j, left.testBit j = true → ∃ i, i < n ∧ (F i).testBit j = true
theorem Cb.wo {F : Nat → Nat} {n left : Nat} (h : Cb F n left) (b : Nat) : Cb F n (wo left b) := fun j hj => by
  rw [wo_bit, Bool.and_eq_true] at hj; exact h j hj.1
theorem ne_zero_bit {m : Nat} (h : m ≠ 0) : ∃ j, m.testBit j = true := Nat.exists_testBit_of_ne_zero h
theorem Cb.pick {F : Nat → Nat} {n left : Nat} (h : Cb F n left) (hl : left < 2 ^ 64) (h0 : left ≠ 0) : pk F left n < n ∧ 0 < nw F left (pk F left n) := by
  obtain ⟨j, hj⟩ := ne_zero_bit h0
  obtain ⟨i, hi, hb⟩ := h j hj
  have h1 := pk_max F left n i hi
  have h2 : 0 < nw F left i := by
    apply Nat.pos_of_ne_zero
    intro e
    unfold nw at e
    rw [cnt_zero (Nat.lt_of_le_of_lt Nat.and_le_right hl)] at e
    have : (F i &&& left).testBit j = true := by rw [Nat.testBit_and, hb, hj]; rfl
    rw [e, Nat.zero_testBit] at this
    cases this
  refine ⟨?_, by omega⟩
  obtain ⟨m, rfl⟩ : ∃ m, n = m + 1 := ⟨n - 1, by omega⟩
  exact pk_lt F left m
theorem Cb.less {F : Nat → Nat} {n left : Nat} (h : Cb F n left) (hl : left < 2 ^ 64) (h0 : left ≠ 0) : cnt (Pl.wo left (F (pk F left n))) < cnt left := by
  have h1 := (h.pick hl h0).2
  have h2 := cnt_part left (F (pk F left n))
  unfold nw at h1
  rw [Nat.and_comm] at h1
  omega
/-- what is taken: indexes of sets, each once, that have something of what is left, and together all of it -/
theorem gr_props {F : Nat → Nat} {n : Nat} : ∀ (f left : Nat), cnt left ≤ f → left < 2 ^ 64 → Cb F n left →
    (∀ i ∈ gr F n f left, i < n ∧ F i &&& left ≠ 0) ∧ (gr F n f left).Nodup ∧ (∀ j, left.testBit j = true → (unl F (gr F n f left)).testBit j = true) ∧ (gr F n f left).length ≤ cnt left
  | 0, left, hc, hl, _ => by
    obtain rfl : left = 0 := (cnt_zero hl).1 (by omega)
    exact ⟨fun i hi => by simp [gr] at hi, by simp [gr], fun j hj => by simp at hj, by simp [gr]⟩
  | f + 1, left, hc, hl, hb => by
    by_cases h0 : left = 0
    · subst h0
      rw [gr_zero]
      exact ⟨fun i hi => by simp at hi, by simp, fun j hj => by simp at hj, by simp⟩
    · have hlt := hb.less hl h0
      have hpk := hb.pick hl h0
      obtain ⟨i1, i2, i3, i4⟩ := gr_props f (Pl.wo left (F (pk F left n))) (by omega) (Nat.lt_of_le_of_lt (wo_le _ _) hl) (hb.wo _)
      rw [gr_step h0]
      refine ⟨fun i hi => ?_, ?_, fun j hj => ?_, by rw [List.length_cons]; omega⟩
      · rcases List.mem_cons.1 hi with rfl | hi
        · refine ⟨hpk.1, fun e => ?_⟩
          have := hpk.2
          unfold nw at this
          rw [e, show cnt 0 = 0 from els0 64] at this
          omega
        · refine ⟨(i1 i hi).1, fun e => (i1 i hi).2 ?_⟩
          refine Nat.eq_of_testBit_eq fun j => ?_
          have := congrArg (fun m => m.testBit j) e
          simp only [Nat.testBit_and, Nat.zero_testBit] at this
          rw [Nat.testBit_and, wo_bit, Nat.zero_testBit]
          cases e1 : (F i).testBit j <;> simp_all
      · rw [List.nodup_cons]
        refine ⟨fun hm => (i1 _ hm).2 ?_, i2⟩
        refine Nat.eq_of_testBit_eq fun j => ?_
        rw [Nat.testBit_and, wo_bit, Nat.zero_testBit]
        cases (F (pk F left n)).testBit j <;> simp
      · rw [unl_bit, List.any_cons, Bool.or_eq_true]
        by_cases e : (F (pk F left n)).testBit j = true
        · exact .inl e
        · right
          rw [← unl_bit]
          exact i3 j (by rw [wo_bit, hj]; simpa using e)
/-- what is not covered yet -/
def lft (F : Nat → Nat) (h : Nat) (l : List Nat) : Nat := wo (2 ^ h - 1) (unl F l)
theorem lft_snoc (F : Nat → Nat) (h : Nat) (l : List Nat) (i : Nat) : lft F h (l ++ [i]) = wo (lft F h l) (F i) := by
  refine Nat.eq_of_testBit_eq fun j => ?_
  unfold lft
  rw [wo_bit, wo_bit, wo_bit, unl_snoc, Nat.testBit_or]
  cases (2 ^ h - 1).testBit j <;> cases (unl F l).testBit j <;> rfl
theorem lft_nil (F : Nat → Nat) (h : Nat) : lft F h [] = 2 ^ h - 1 := by
  refine Nat.eq_of_testBit_eq fun j => ?_
  unfold lft
  rw [wo_bit]
  simp [unl]
theorem lft_lt (F : Nat → Nat) {h : Nat} (h40 : h ≤ 40) (l : List Nat) : lft F h l < 2 ^ 40 := by
  have h1 := wo_le (2 ^ h - 1) (unl F l)
  have h2 : 2 ^ h ≤ 2 ^ 40 := Nat.pow_le_pow_right (by omega) h40
  have h3 := Nat.two_pow_pos h
  show wo _ _ < _
  omega
theorem lft_zero {ss : List Sz} {hs : List Hd} {F : Nat → Nat} (h : IsF ss hs F) (l : List Nat) : lft F hs.length l = 0 ↔ cv ss hs l = true := by
  rw [← h.cover l, full_iff (h.unl l)]
  constructor
  · intro e j hj
    have := congrArg (fun m => m.testBit j) e
    simp only [lft, wo_bit, Nat.zero_testBit, Nat.testBit_two_pow_sub_one, decide_eq_true hj, Bool.true_and] at this
    simpa using this
  · intro e
    refine Nat.eq_of_testBit_eq fun j => ?_
    unfold lft
    rw [wo_bit, Nat.zero_testBit, Nat.testBit_two_pow_sub_one]
    by_cases hj : j < hs.length
    · rw [e j hj]; simp
    · simp [hj]
/-- if all sizes cover all heads, then what is left can be covered -/
theorem cb_lft {ss : List Sz} {hs : List Hd} {F : Nat → Nat} (h : IsF ss hs F) (hc : cv ss hs (List.range ss.length) = true) (l : List Nat) : Cb F ss.length (lft F hs.length l) := fun j hj => by
  unfold lft at hj
  rw [wo_bit, Bool.and_eq_true, Nat.testBit_two_pow_sub_one, decide_eq_true_eq] at hj
  rw [← h.cover, full_iff (h.unl _)] at hc
  have := hc j hj.1
  rw [unl_bit, List.any_eq_true] at this
  obtain ⟨i, hi, hb⟩ := this
  exact ⟨i, List.mem_range.1 hi, hb⟩
end Go.Proofs.YtghbipipehglfaaDoor.Pl
