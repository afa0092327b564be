/- Lists of entries that came in, with what a nil one has. -/
import Derived.Test.YtalfffkcmddakaaOpen
namespace Go.Proofs.Ytalfffkcmddakaa
open Go.ChangeShapes Go.WideShapes Go.ChangeAt Go.RowKit Go.Deep Go.Joins
structure EnsN (W : World) (A : Option Addr) (l : List Pl.En) (k : Nat) : Prop where
  rows : Rows enL 4 W A l
  cap : l.length ≤ k
  top : k ≤ maxLen
  nil : A = none → k = 0
section
variable {H : Type} {enc : TypeId × Value → H} {W : World} {d : DataW H} {p : List MemPlace}
theorem open_ensn {a0 : Option Addr} {len cap : Nat} (h : DataW.Trod enc Try.prog W 0 (fun _ => true) true 22 (.slice a0 len cap) d p) : ∃ l : List Pl.En, len = l.length ∧ EnsN W a0 l cap := by
  obtain ⟨fuel, hf⟩ := h
  have hf' : DataW.trod enc Try.prog W 0 (fun _ => true) true fuel 22 [.slice a0 len cap] = some (d, p) := by simpa [Value.cells] using hf
  obtain ⟨l, h1, h2, h3, h4, _⟩ := open_rows (ok := fun _ => True) Try.underlying22 cellsEn encEn (fun fuel cs x hl hx => trod_en hl hx) hf'
  exact ⟨l, h1, h2, by omega, h4, fun e => (nil_cell Try.underlying22 hf' e).2⟩
end
end Go.Proofs.Ytalfffkcmddakaa
