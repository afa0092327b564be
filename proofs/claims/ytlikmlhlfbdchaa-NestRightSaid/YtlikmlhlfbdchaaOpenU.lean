/- nest: a byte that came in. -/
import Derived.Test.YtlikmlhlfbdchaaOpenD
namespace Go.Proofs.Ytlikmlhlfbdchaa
open Go.RowKit
theorem u8_bd {x : Int} (h : (Lit.int .u8 x).wf = true) : 0 ≤ x ∧ x ≤ 255 := by
  simp [Lit.wf, IntKind.min, IntKind.max, IntKind.signed, IntKind.bits] at h
  omega
end Go.Proofs.Ytlikmlhlfbdchaa
