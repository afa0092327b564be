/- Plain: runs. -/
import Derived.Test.YtlfbfdhdkccaeaaP4
namespace Go.Proofs.Ytlfbfdhdkccaeaa.Pl

/-- a run -/
structure Rn where
  b : Int
  f : Int
  t : Int
  c : Bool
deriving DecidableEq
/-- the run of zeros -/
def zr : Rn := ⟨0, 0, 0, false⟩
/-- a number of 64 bits -/
def W64 (x : Int) : Prop := -9223372036854775808 ≤ x ∧ x ≤ 9223372036854775807
/-- numbers of 64 bits -/
def Rw (r : Rn) : Prop := W64 r.b ∧ W64 r.f ∧ W64 r.t
end Go.Proofs.Ytlfbfdhdkccaeaa.Pl
