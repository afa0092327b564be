/- LastSteps on every input. -/
import Derived.Test.YtghbipipehglfaaL4
namespace Go.Proofs.Ytghbipipehglfaa
open Go.RowKit Go.Shelf
theorem law_steps (s : Pl.Sz) (h : Pl.Hd) (st : Nat → Int) (m n : Int) (w : World) :
    Calls Try.prog 8 #[.agg (szA s), .agg (hdA h), .agg (a5A st), .int .i64 m, .int .i64 n] w fun e w' => e = .returned (.bool true) ∧ Below w.heap.size w w' := by
  rcases gE_three s st m with he | he | he
  · exact steps_yes s h st m n he w
  · exact steps_no s h st m n (.inl he) w
  · exact steps_no s h st m n (.inr he) w
end Go.Proofs.Ytghbipipehglfaa
