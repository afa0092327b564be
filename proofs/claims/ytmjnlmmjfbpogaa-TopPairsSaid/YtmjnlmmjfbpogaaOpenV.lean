/- Three small numbers that came in. -/
import Derived.Test.YtmjnlmmjfbpogaaOpen
namespace Go.Proofs.Ytmjnlmmjfbpogaa
open Go.ChangeShapes Go.WideShapes Go.ChangeAt Go.RowKit Go.Deep Go.Joins
set_option maxRecDepth 100000
theorem cellsU16 : Try.prog.cellsOf 65 = 1 := by kernel_rfl
theorem cellsV3 : Try.prog.cellsOf 66 = 3 := by kernel_rfl
theorem u16_nat {x : Int} (h : (Lit.int .u16 x).wf = true) : ∃ n : Nat, n ≤ 65535 ∧ x = n := by
  simp [Lit.wf, IntKind.min, IntKind.max, IntKind.signed, IntKind.bits] at h
  exact ⟨x.toNat, by omega, by omega⟩
theorem open_v3 {H : Type} {enc : TypeId × Value → H} {W : World} {base : Nat} {v : Value} {d : DataW H} {p : List MemPlace} (hv : Value.okWide Try.prog W .any base 66 v) (h : DataW.Trod enc Try.prog W 0 (fun _ => true) true 66 v d p) :
    ∃ a b c : Nat, v = .agg #[.int .u16 a, .int .u16 b, .int .u16 c] ∧ a ≤ 65535 ∧ b ≤ 65535 ∧ c ≤ 65535 := by
  obtain ⟨⟨l⟩, rfl⟩ := okWide_agg Try.underlying66 hv
  obtain ⟨fuel, hf⟩ := h
  obtain ⟨xs, m, _, _, hl, hlen, hg⟩ := DataW.trod_array Try.underlying66 hf
  rw [cellsV3] at hl
  simp [Value.cells] at hl
  match l, hl, xs, hlen with
  | [c0, c1, c2], _, [y0, y1, y2], _ =>
    have g0 := hg 0 (by omega)
    have g1 := hg 1 (by omega)
    have g2 := hg 2 (by omega)
    simp [cellsU16, Value.cells] at g0 g1 g2
    obtain ⟨n0, e0, _, w0⟩ := DataW.trod_int (k := .u16) Try.underlying65 g0
    obtain ⟨n1, e1, _, w1⟩ := DataW.trod_int (k := .u16) Try.underlying65 g1
    obtain ⟨n2, e2, _, w2⟩ := DataW.trod_int (k := .u16) Try.underlying65 g2
    cases e0; cases e1; cases e2
    obtain ⟨a, h0, rfl⟩ := u16_nat w0
    obtain ⟨b, h1, rfl⟩ := u16_nat w1
    obtain ⟨c, h2, rfl⟩ := u16_nat w2
    exact ⟨a, b, c, rfl, h0, h1, h2⟩
end Go.Proofs.Ytmjnlmmjfbpogaa
