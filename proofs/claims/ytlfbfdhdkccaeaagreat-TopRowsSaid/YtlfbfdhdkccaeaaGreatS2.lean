/- timed, of the document; Stage, of the program and of the document. -/
import Derived.Test.YtlfbfdhdkccaeaaGreatS1
namespace Go.Proofs.YtlfbfdhdkccaeaaGreat
open Go.RowKit Go.Shelf Go.Sort

theorem wrap_no2 {z f : Int} (h0 : -9223372036854776808 ≤ z) (h1 : z ≤ 9223372036854775807) (hf : f ≤ z + 1000) (hne : z ≠ f) : (IntKind.i64.wrap z == f) = false := by
  rw [beq_eq_false_iff_ne]
  intro e
  by_cases h : -9223372036854775808 ≤ z
  · rw [IntWalk.i64_in _ (by omega)] at e
    exact hne e
  · rw [IntKind.wrap_i64] at e
    omega

end Go.Proofs.YtlfbfdhdkccaeaaGreat

