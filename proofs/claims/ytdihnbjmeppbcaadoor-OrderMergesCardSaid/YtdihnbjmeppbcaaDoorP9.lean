/- Plain: no line is named twice. -/
import Derived.Test.YtdihnbjmeppbcaaDoorP8
import Derived.Test.YtdihnbjmeppbcaaDoorP4
namespace Go.Proofs.YtdihnbjmeppbcaaDoor.Pl

/-- q is one of the first k -/
def us (l : List Int) (k q : Nat) : Bool := (List.range k).any (fun i => el l i == (q : Int))
theorem us_zero (l : List Int) (q : Nat) : us l 0 q = false := rfl
theorem us_succ (l : List Int) (k q : Nat) : us l (k + 1) q = (us l k q || (el l k == (q : Int))) := by
  unfold us
  rw [List.range_succ, List.any_append]
  simp
theorem us_true {l : List Int} {k q : Nat} : us l k q = true ↔ ∃ i, i < k ∧ el l i = (q : Int) := by
  unfold us
  rw [List.any_eq_true]
  constructor
  · rintro ⟨i, hi, h⟩
    exact ⟨i, List.mem_range.1 hi, by simpa using h⟩
  · rintro ⟨i, hi, h⟩
    exact ⟨i, List.mem_range.2 hi, by simpa using h⟩
theorem crD_iff {l : List Int} : crD l = true ↔ ∀ i k, i < k → k < l.length → el l i ≠ el l k := by
  unfold crD
  rw [decide_eq_true_iff, nodup_idx]
  constructor
  · intro h i k hik hk
    rw [el_get (show i < l.length by omega), el_get hk]
    exact h i k (by omega) hk hik
  · intro h i k hi hk hik
    have := h i k hik hk
    rw [el_get hi, el_get hk] at this
    exact this
theorem crD_no {l : List Int} {i k : Nat} (hik : i < k) (hk : k < l.length) (h : el l i = el l k) : crD l = false := by
  rw [← Bool.not_eq_true, crD_iff]
  exact fun hh => hh i k hik hk h
end Go.Proofs.YtdihnbjmeppbcaaDoor.Pl
