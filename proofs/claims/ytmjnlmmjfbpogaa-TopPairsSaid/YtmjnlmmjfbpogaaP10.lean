/- What is left by pairs. -/
import Derived.Test.YtmjnlmmjfbpogaaP6
namespace Go.Proofs.Ytmjnlmmjfbpogaa.Pl

/-- is an index in a pair? -/
def hit (M : List (Nat × Nat)) (i : Nat) : Bool := M.any fun e => decide (e.1 = i) || decide (e.2 = i)
/-- the indexes below n that are in no pair -/
def rs (n : Nat) (M : List (Nat × Nat)) : List Nat := (List.range n).filter fun i => !hit M i
/-- what Rest returns -/
def Rs (l : List Tm) (tol : Int) : List Nat := if ck l tol = 0 then rs l.length (mt l tol) else []
theorem hit_take {M : List (Nat × Nat)} {k : Nat} (hk : k < M.length) (i : Nat) : hit (M.take (k + 1)) i = (hit (M.take k) i || (decide (M[k].1 = i) || decide (M[k].2 = i))) := by
  unfold hit
  rw [List.take_succ_eq_append_getElem hk, List.any_append]
  simp
theorem rs_len {n : Nat} {M : List (Nat × Nat)} : (rs n M).length ≤ n := by
  have := List.length_filter_le (fun i => !hit M i) (List.range n)
  rw [List.length_range] at this
  exact this
theorem rs_yes {M : List (Nat × Nat)} {k : Nat} (h : hit M k = false) : rs (k + 1) M = rs k M ++ [k] := by
  unfold rs
  rw [List.range_succ, List.filter_append]
  simp [h]
theorem rs_no {M : List (Nat × Nat)} {k : Nat} (h : hit M k = true) : rs (k + 1) M = rs k M := by
  unfold rs
  rw [List.range_succ, List.filter_append]
  simp [h]
theorem mt_idx (l : List Tm) (tol : Int) {e : Nat × Nat} (he : e ∈ mt l tol) : e.1 < l.length ∧ e.2 < l.length ∧ e.1 ≠ e.2 := by
  have h := (mt_mch l tol).rel e he
  refine ⟨h.a, h.b, fun hh => ?_⟩
  have h1 := h.s1; have h2 := h.s2
  rw [hh] at h1
  omega
end Go.Proofs.Ytmjnlmmjfbpogaa.Pl
