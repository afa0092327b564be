/- Lists of truth values that came in. -/
import Derived.Test.YtalfffkcmddakaaOpen
namespace Go.Proofs.Ytalfffkcmddakaa
open Go.ChangeShapes Go.WideShapes Go.ChangeAt Go.RowKit Go.Deep Go.Joins
section
variable {H : Type} {enc : TypeId × Value → H} {W : World} {d : DataW H} {p : List MemPlace}
theorem open_bos {a0 : Option Addr} {len cap : Nat} (h : DataW.Trod enc Try.prog W 0 (fun _ => true) true 63 (.slice a0 len cap) d p) : ∃ l : List Bool, len = l.length ∧ Rows boL 1 W a0 l ∧ len ≤ cap ∧ cap ≤ maxLen := by
  obtain ⟨fuel, hf⟩ := h
  obtain ⟨l, h1, h2, h3, h4, _⟩ := open_rows (ok := fun _ => True) Try.underlying63 cells4 encBo (fun fuel cs x hl hx => trod_bo hx) (by simpa [Value.cells] using hf)
  exact ⟨l, h1, h2, h3, h4⟩
end
end Go.Proofs.Ytalfffkcmddakaa
