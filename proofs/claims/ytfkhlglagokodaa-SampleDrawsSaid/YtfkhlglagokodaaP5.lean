/- Plain: how many of drawn pieces are bad. -/
import Derived.Test.YtfkhlglagokodaaP3
namespace Go.Proofs.Ytfkhlglagokodaa.Pl

def b01 (b : Bool) : Nat := if b then 1 else 0
/-- behind those of pre, of which n are bad -/
def bdl (ps : List Bool) : List Int → List Int → Nat → Nat × Int
  | _, [], n => (n, 0)
  | pre, x :: xs, n => if inB 0 x ((ps.length : Int) - 1) = true ∧ ¬ x ∈ pre then bdl ps (pre ++ [x]) xs (n + b01 (ps.getD x.toNat false)) else (0, 2)
def bad (ps : List Bool) (xs : List Int) : Nat × Int := if ps.length ≤ 60 then bdl ps [] xs 0 else (0, 2)
theorem bdl_step {ps : List Bool} {xs : List Int} {k n : Nat} (hk : k < xs.length) : bdl ps (xs.take k) (xs.drop k) n =
    if inB 0 xs[k] ((ps.length : Int) - 1) = true ∧ ¬ xs[k] ∈ xs.take k then bdl ps (xs.take (k + 1)) (xs.drop (k + 1)) (n + b01 (ps.getD xs[k].toNat false)) else (0, 2) := by
  rw [List.drop_eq_getElem_cons hk, List.take_succ_eq_append_getElem hk]
  rfl
theorem bdl_end {ps : List Bool} {xs : List Int} {n : Nat} : bdl ps (xs.take xs.length) (xs.drop xs.length) n = (n, 0) := by
  rw [List.drop_length]; rfl
end Go.Proofs.Ytfkhlglagokodaa.Pl
