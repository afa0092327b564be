/- Fractions that came in. -/
import Derived.Test.YtfkhlglagokodaaOpenU
namespace Go.Proofs.Ytfkhlglagokodaa
open Go.ChangeShapes Go.WideShapes Go.ChangeAt Go.RowKit Go.Deep Go.Joins
set_option maxRecDepth 100000
/-- a fraction that came in: its numbers are numbers of 64 bits -/
theorem open_frw {H : Type} {enc : TypeId × Value → H} {W : World} {base : Nat} {v : Value} {d : DataW H} {p : List MemPlace} (hv : Value.okWide Try.prog W .any base 51 v) (h : DataW.Trod enc Try.prog W 0 (fun _ => true) true 51 v d p) : ∃ a b : Int, v = .agg #[.int .i64 a, .int .i64 b] ∧ (Lit.int .i64 a).wf = true ∧ (Lit.int .i64 b).wf = true := by
  obtain ⟨⟨l⟩, rfl⟩ := okWide_agg Try.underlying51 hv
  obtain ⟨fuel, hf⟩ := h
  obtain ⟨xs, m, _, _, hl, hlen, hg⟩ := DataW.trod_array Try.underlying51 hf
  rw [cells51] at hl
  simp [Value.cells] at hl
  match l, hl, xs, hlen with
  | [c0, c1], _, [y0, y1], _ =>
    have g0 := hg 0 (by omega)
    have g1 := hg 1 (by omega)
    simp [cells3, Value.cells] at g0 g1
    obtain ⟨n0, e0, _, w0⟩ := DataW.trod_int (k := .i64) Try.underlying3 g0
    obtain ⟨n1, e1, _, w1⟩ := DataW.trod_int (k := .i64) Try.underlying3 g1
    cases e0; cases e1
    exact ⟨n0, n1, rfl, w0, w1⟩
end Go.Proofs.Ytfkhlglagokodaa
