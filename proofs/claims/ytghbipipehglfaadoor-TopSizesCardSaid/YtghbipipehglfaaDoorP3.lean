/- Plain: the error of values, a width and a list; lists by their indexes. It imports nothing of the program. -/
import Derived.Test.YtghbipipehglfaaDoorP1
import Derived.Test.YtghbipipehglfaaDoorP2
namespace Go.Proofs.YtghbipipehglfaaDoor.Pl

def allIn (l : List Int) (a b : Int) : Bool := allK (fun i => inB (l.getD i 0) a b) l.length
theorem getD_mem {l : List Int} {i : Nat} (h : i < l.length) : l.getD i 0 ∈ l := by
  rw [List.getD_eq_getElem?_getD, List.getElem?_eq_getElem h]; exact List.getElem_mem h
theorem mem_getD {l : List Int} {x : Int} (h : x ∈ l) : ∃ i, i < l.length ∧ l.getD i 0 = x := by
  obtain ⟨i, hi, he⟩ := List.mem_iff_getElem.1 h
  exact ⟨i, hi, by rw [List.getD_eq_getElem?_getD, List.getElem?_eq_getElem hi]; exact he⟩
theorem allIn_true {l : List Int} {a b : Int} : allIn l a b = true ↔ ∀ v, v ∈ l → a ≤ v ∧ v ≤ b := by
  unfold allIn
  rw [allK_true]
  constructor
  · intro h v hv
    obtain ⟨i, hi, rfl⟩ := mem_getD hv
    exact inB_true.1 (h i hi)
  · intro h i hi
    exact inB_true.2 (h _ (getD_mem hi))
def lineOk (vs : List Int) (w : Int) (ls : List Int) : Bool := allIn vs (-1000000) 1000000 && (allIn ls (-2000000) 1000000 && inB w 0 1000000)
def lineE (vs : List Int) (w : Int) (ls : List Int) : Int := if 200 < vs.length ∨ 200 < ls.length then 4 else if lineOk vs w ls = true then 0 else 2
theorem lineE_limit {vs : List Int} {w : Int} {ls : List Int} (h : 200 < vs.length ∨ 200 < ls.length) : lineE vs w ls = 4 := if_pos h
theorem lineE_arg {vs : List Int} {w : Int} {ls : List Int} (h : ¬ (200 < vs.length ∨ 200 < ls.length)) (h2 : lineOk vs w ls = false) : lineE vs w ls = 2 := by unfold lineE; rw [if_neg h, if_neg (by rw [h2]; simp)]
theorem lineE_ok {vs : List Int} {w : Int} {ls : List Int} (h : ¬ (200 < vs.length ∨ 200 < ls.length)) (h2 : lineOk vs w ls = true) : lineE vs w ls = 0 := by unfold lineE; rw [if_neg h, if_pos h2]
theorem lineE_three (vs : List Int) (w : Int) (ls : List Int) : lineE vs w ls = 0 ∨ lineE vs w ls = 2 ∨ lineE vs w ls = 4 := by
  unfold lineE; split
  · exact .inr (.inr rfl)
  · split
    · exact .inl rfl
    · exact .inr (.inl rfl)
theorem lineE_zero {vs : List Int} {w : Int} {ls : List Int} (h : lineE vs w ls = 0) : vs.length ≤ 200 ∧ ls.length ≤ 200 ∧ (∀ v, v ∈ vs → -1000000 ≤ v ∧ v ≤ 1000000) ∧ (∀ v, v ∈ ls → -2000000 ≤ v ∧ v ≤ 1000000) ∧ 0 ≤ w ∧ w ≤ 1000000 := by
  unfold lineE at h
  split at h
  · cases h
  · rename_i hn
    split at h
    · rename_i hok
      unfold lineOk at hok
      rw [Bool.and_eq_true, Bool.and_eq_true, allIn_true, allIn_true, inB_true] at hok
      exact ⟨by omega, by omega, hok.1, hok.2.1, hok.2.2⟩
    · cases h
theorem allIn_nil (a b : Int) : allIn [] a b = true := rfl
/-- Stab and Spread leave the list out -/
theorem lineE_nil_zero {vs : List Int} {w : Int} {ls : List Int} (h : lineE vs w ls = 0) : lineE vs w [] = 0 := by
  have h' := lineE_zero h
  refine lineE_ok (by simp; omega) ?_
  unfold lineOk
  rw [allIn_nil, allIn_true.2 h'.2.2.1, inB_true.2 h'.2.2.2.2]
  rfl
end Go.Proofs.YtghbipipehglfaaDoor.Pl
