/- Plain: choosing a size for a head; which heads are covered by sizes, and which are apart. -/
import Derived.Test.YtghbipipehglfaaDoorP2
import Derived.Test.YtghbipipehglfaaDoorP7
namespace Go.Proofs.YtghbipipehglfaaDoor.Pl

def sm (s : Sz) (h : Hd) : Int := sumK (nd s h) 5
/-- size i is better for a head than size b -/
def btr (ss : List Sz) (h : Hd) (i b : Nat) : Bool := decide (sm (ss.getD i zsz) h < sm (ss.getD b zsz) h) || (decide (sm (ss.getD i zsz) h = sm (ss.getD b zsz) h) && decide ((ss.getD i zsz).code < (ss.getD b zsz).code))
def bstep (ss : List Sz) (h : Hd) (o : Option Nat) (i : Nat) : Option Nat :=
  match o with
  | none => some i
  | some b => some (if btr ss h i b = true then i else b)
/-- the indexes below n of sizes that fit -/
def ftg (ss : List Sz) (h : Hd) (n : Nat) : List Nat := (List.range n).filter fun i => fit (ss.getD i zsz) h
theorem ftg_succ (ss : List Sz) (h : Hd) (n : Nat) : ftg ss h (n + 1) = if fit (ss.getD n zsz) h = true then ftg ss h n ++ [n] else ftg ss h n := by
  unfold ftg
  rw [List.range_succ, List.filter_append]
  cases e : fit (ss.getD n zsz) h with
  | true => rw [if_pos rfl, List.filter_cons_of_pos (p := fun i => fit (ss.getD i zsz) h) e]; rfl
  | false => rw [if_neg (by decide), List.filter_cons_of_neg (p := fun i => fit (ss.getD i zsz) h) (by rw [e]; decide), List.filter_nil, List.append_nil]
theorem ftg_lt {ss : List Sz} {h : Hd} {n i : Nat} (hi : i ∈ ftg ss h n) : i < n ∧ fit (ss.getD i zsz) h = true := by
  unfold ftg at hi; rwa [List.mem_filter, List.mem_range] at hi
def bsl (ss : List Sz) (h : Hd) (l : List Nat) : Option Nat := l.foldl (bstep ss h) none
theorem bsl_snoc (ss : List Sz) (h : Hd) (l : List Nat) (i : Nat) : bsl ss h (l ++ [i]) = bstep ss h (bsl ss h l) i := by simp [bsl]
def bst (ss : List Sz) (h : Hd) (n : Nat) : Option Nat := bsl ss h (ftg ss h n)
theorem bst_succ (ss : List Sz) (h : Hd) (n : Nat) : bst ss h (n + 1) = if fit (ss.getD n zsz) h = true then bstep ss h (bst ss h n) n else bst ss h n := by
  unfold bst
  rw [ftg_succ]
  split
  · rw [bsl_snoc]
  · rfl
theorem bsl_some {ss : List Sz} {h : Hd} : ∀ (l : List Nat) (o : Option Nat) (b : Nat), l.foldl (bstep ss h) o = some b → b ∈ l ∨ o = some b
  | [], o, b, hb => .inr hb
  | i :: l, o, b, hb => by
    rw [List.foldl_cons] at hb
    rcases bsl_some l _ b hb with h1 | h1
    · exact .inl (List.mem_cons_of_mem _ h1)
    · cases o with
      | none =>
        simp only [bstep, Option.some.injEq] at h1
        subst h1
        exact .inl (by simp)
      | some c =>
        simp only [bstep, Option.some.injEq] at h1
        split at h1
        · subst h1; exact .inl (by simp)
        · subst h1; exact .inr rfl
theorem bst_lt {ss : List Sz} {h : Hd} {n b : Nat} (hb : bst ss h n = some b) : b < n ∧ fit (ss.getD b zsz) h = true := by
  rcases bsl_some _ _ _ hb with h1 | h1
  · exact ftg_lt h1
  · cases h1
theorem bsl_cons (ss : List Sz) (h : Hd) : ∀ (l : List Nat) (i : Nat), ∃ b, l.foldl (bstep ss h) (some i) = some b
  | [], i => ⟨i, rfl⟩
  | _ :: l, _ => bsl_cons ss h l _
theorem bst_none {ss : List Sz} {h : Hd} {n : Nat} : bst ss h n = none ↔ ftg ss h n = [] := by
  unfold bst bsl
  cases e : ftg ss h n with
  | nil => simp
  | cons i l =>
    obtain ⟨b, hb⟩ := bsl_cons ss h l i
    rw [List.foldl_cons]
    have : bstep ss h none i = some i := rfl
    rw [this, hb]
    simp

/-- a head is fitted by a size of a list -/
def cvb (ss : List Sz) (h : Hd) (l : List Nat) : Bool := l.any fun i => fit (ss.getD i zsz) h
/-- all heads are -/
def cv (ss : List Sz) (hs : List Hd) (l : List Nat) : Bool := (List.range hs.length).all fun j => cvb ss (hs.getD j ⟨0, fun _ => 0⟩) l
/-- F q is the set of the heads that size q fits -/
def IsF (ss : List Sz) (hs : List Hd) (F : Nat → Nat) : Prop := ∀ q j, (F q).testBit j = (decide (j < hs.length) && fit (ss.getD q zsz) (hs.getD j ⟨0, fun _ => 0⟩))
theorem IsF.lt {ss : List Sz} {hs : List Hd} {F : Nat → Nat} (h : IsF ss hs F) (q : Nat) : F q < 2 ^ hs.length := by
  apply Nat.lt_of_not_le
  intro hle
  obtain ⟨j, hj, hb⟩ := Nat.exists_ge_and_testBit_of_ge_two_pow hle
  rw [h q j, decide_eq_false (by omega)] at hb
  cases hb
theorem IsF.unl {ss : List Sz} {hs : List Hd} {F : Nat → Nat} (h : IsF ss hs F) (l : List Nat) : unl F l < 2 ^ hs.length := unl_lt fun i _ => h.lt i
theorem IsF.bit {ss : List Sz} {hs : List Hd} {F : Nat → Nat} (h : IsF ss hs F) (l : List Nat) {j : Nat} (hj : j < hs.length) : (Pl.unl F l).testBit j = cvb ss (hs.getD j ⟨0, fun _ => 0⟩) l := by
  rw [unl_bit]
  unfold cvb
  congr 1
  funext i
  rw [h i j, decide_eq_true hj, Bool.true_and]
theorem IsF.cover {ss : List Sz} {hs : List Hd} {F : Nat → Nat} (h : IsF ss hs F) (l : List Nat) : (Pl.unl F l = 2 ^ hs.length - 1) ↔ cv ss hs l = true := by
  rw [full_iff (h.unl l)]
  unfold cv
  rw [List.all_eq_true]
  constructor
  · intro hh j hj
    rw [List.mem_range] at hj
    rw [← h.bit l hj]; exact hh j hj
  · intro hh j hj
    rw [h.bit l hj]; exact hh j (List.mem_range.2 hj)
theorem cv_congr {ss : List Sz} {hs : List Hd} {l m : List Nat} (h : ∀ i, i ∈ l ↔ i ∈ m) : cv ss hs l = cv ss hs m := by
  unfold cv
  congr 1
  funext j
  unfold cvb
  rw [Bool.eq_iff_iff, List.any_eq_true, List.any_eq_true]
  simp only [h]

theorem len_le_one {l : List Nat} (hn : l.Nodup) : 1 < l.length ↔ ∃ x y, x ≠ y ∧ x ∈ l ∧ y ∈ l := by
  constructor
  · intro h
    match l, hn, h with
    | a :: b :: l, hn, _ =>
      refine ⟨a, b, ?_, by simp, by simp⟩
      rw [List.nodup_cons] at hn
      intro e; subst e
      exact hn.1 (by simp)
  · rintro ⟨x, y, hne, hx, hy⟩
    match l, hx, hy with
    | [a], hx, hy =>
      simp at hx hy
      omega
    | a :: b :: l, _, _ => simp
theorem cnt_two {m : Nat} (hm : m < 2 ^ 64) : 1 < cnt m ↔ ∃ x y, x ≠ y ∧ m.testBit x = true ∧ m.testBit y = true := by
  unfold cnt
  rw [len_le_one (els_nodup m 64)]
  have hlt : ∀ i, m.testBit i = true → i < 64 := fun i hi => by
    apply Nat.lt_of_not_le
    intro hle
    rw [Nat.testBit_lt_two_pow (Nat.lt_of_lt_of_le hm (Nat.pow_le_pow_right (by omega) hle))] at hi
    cases hi
  constructor
  · rintro ⟨x, y, h1, h2, h3⟩; exact ⟨x, y, h1, (mem_els.1 h2).2, (mem_els.1 h3).2⟩
  · rintro ⟨x, y, h1, h2, h3⟩; exact ⟨x, y, h1, mem_els.2 ⟨hlt x h2, h2⟩, mem_els.2 ⟨hlt y h3, h3⟩⟩
/-- no size fits two of the heads of a set -/
def apm (F : Nat → Nat) (n m : Nat) : Bool := (List.range n).all fun q => decide (cnt (F q &&& m) ≤ 1)
theorem apm_true {F : Nat → Nat} {n m : Nat} : apm F n m = true ↔ ∀ q, q < n → cnt (F q &&& m) ≤ 1 := by
  unfold apm; rw [List.all_eq_true]; simp
/-- size q fits both heads -/
def two (ss : List Sz) (hs : List Hd) (q x y : Nat) : Bool := fit (ss.getD q zsz) (hs.getD x ⟨0, fun _ => 0⟩) && fit (ss.getD q zsz) (hs.getD y ⟨0, fun _ => 0⟩)
theorem two_cnt {ss : List Sz} {hs : List Hd} {F : Nat → Nat} (h : IsF ss hs F) (h40 : hs.length ≤ 40) {q x y m : Nat} (hx : x < hs.length) (hy : y < hs.length) (hne : x ≠ y)
    (mx : m.testBit x = true) (my : m.testBit y = true) (ht : two ss hs q x y = true) : 1 < cnt (F q &&& m) := by
  unfold two at ht
  rw [Bool.and_eq_true] at ht
  rw [cnt_two (Nat.lt_of_le_of_lt Nat.and_le_left (Nat.lt_of_lt_of_le (h.lt q) (Nat.pow_le_pow_right (by omega) (by omega))))]
  refine ⟨x, y, hne, ?_, ?_⟩
  · rw [Nat.testBit_and, h q x, decide_eq_true hx, ht.1, mx]; rfl
  · rw [Nat.testBit_and, h q y, decide_eq_true hy, ht.2, my]; rfl
theorem cnt_two' {ss : List Sz} {hs : List Hd} {F : Nat → Nat} (h : IsF ss hs F) (h40 : hs.length ≤ 40) {q m : Nat} (hc : 1 < cnt (F q &&& m)) :
    ∃ x y, x ≠ y ∧ x < hs.length ∧ y < hs.length ∧ m.testBit x = true ∧ m.testBit y = true ∧ two ss hs q x y = true := by
  rw [cnt_two (Nat.lt_of_le_of_lt Nat.and_le_left (Nat.lt_of_lt_of_le (h.lt q) (Nat.pow_le_pow_right (by omega) (by omega))))] at hc
  obtain ⟨x, y, hne, hx, hy⟩ := hc
  rw [Nat.testBit_and, h q, Bool.and_eq_true, Bool.and_eq_true, decide_eq_true_eq] at hx hy
  exact ⟨x, y, hne, hx.1.1, hy.1.1, hx.2, hy.2, by unfold two; rw [hx.1.2, hy.1.2]; rfl⟩
end Go.Proofs.YtghbipipehglfaaDoor.Pl
