/- Arguments as they came in: a pair of small numbers. -/
import Derived.Test.YtlfbfdhdkccaeaaGreatOpen
namespace Go.Proofs.YtlfbfdhdkccaeaaGreat
open Go.ChangeShapes Go.WideShapes Go.ChangeAt Go.RowKit Go.Deep Go.Joins
set_option maxRecDepth 100000
theorem cells5y : Tryz.prog.cellsOf 5 = 1 := by kernel_rfl
theorem cells23y : Tryz.prog.cellsOf 23 = 2 := by kernel_rfl
section
variable {H : Type} {enc : TypeId × Value → H} {W : World} {base : Nat} {v : Value} {d : DataW H} {p : List MemPlace}
theorem trod_u8 {base : Nat} {spare : Nat → Bool} {held : Bool} {fuel : Nat} {x : DataW H × List MemPlace} {cs : List Value} (h : DataW.trod enc Tryz.prog W base spare held fuel 5 cs = some x) : ∃ n : Nat, cs = [.int .u8 n] ∧ n ≤ 255 := by
  obtain ⟨n, e, _, hw⟩ := DataW.trod_int (k := .u8) Tryz.underlying5 h
  obtain ⟨m, hm, rfl⟩ := u8_nat hw
  exact ⟨m, e, hm⟩
theorem open_pu (hv : Value.okWide Tryz.prog W .any base 23 v) (h : DataW.Trod enc Tryz.prog W 0 (fun _ => true) true 23 v d p) : ∃ a b : Nat, v = .agg #[.int .u8 a, .int .u8 b] ∧ a ≤ 255 ∧ b ≤ 255 := by
  obtain ⟨⟨l⟩, rfl⟩ := okWide_agg Tryz.underlying23 hv
  obtain ⟨fuel, hf⟩ := h
  obtain ⟨xs, m, _, _, hl, hlen, hg⟩ := DataW.trod_array Tryz.underlying23 hf
  rw [cells23y] at hl
  simp [Value.cells] at hl
  match l, hl, xs, hlen with
  | [c0, c1], _, [y0, y1], _ =>
    have g0 := hg 0 (by omega)
    have g1 := hg 1 (by omega)
    simp [cells5y, Value.cells] at g0 g1
    obtain ⟨n0, e0, w0⟩ := trod_u8 g0
    obtain ⟨n1, e1, w1⟩ := trod_u8 g1
    cases e0; cases e1
    exact ⟨n0, n1, rfl, w0, w1⟩
end
end Go.Proofs.YtlfbfdhdkccaeaaGreat

