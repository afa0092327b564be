/- A claim that came in: two lists in a struct. -/
import Derived.Test.YtmjnlmmjfbpogaaOpen
namespace Go.Proofs.Ytmjnlmmjfbpogaa
open Go.ChangeShapes Go.WideShapes Go.ChangeAt Go.RowKit Go.Deep Go.Joins
set_option maxRecDepth 100000
theorem cellsCl : Try.prog.cellsOf 49 = 2 := by kernel_rfl
theorem cellsPs : Try.prog.cellsOf 33 = 1 := by kernel_rfl
theorem cellsIs : Try.prog.cellsOf 41 = 1 := by kernel_rfl
section
variable {H : Type} {enc : TypeId × Value → H} {W : World} {base : Nat} {v : Value} {d : DataW H} {p : List MemPlace}
theorem slice_of {t e : TypeId} (ht : Try.prog.underlying t = some (.slice e)) {fuel : Nat} {c0 : Value} {x : DataW H × List MemPlace}
    (h : DataW.trod enc Try.prog W 0 (fun _ => true) true fuel t [c0] = some x) : ∃ A n c d p, c0 = .slice A n c ∧ DataW.Trod enc Try.prog W 0 (fun _ => true) true t (.slice A n c) d p := by
  obtain ⟨d, p⟩ := x
  have h' := h
  rcases open_slice ht h with ⟨hcs, _⟩ | ⟨a, len', cap', m, n, D, P, hcs, _⟩
  · simp at hcs
    subst hcs
    exact ⟨_, _, _, d, p, rfl, fuel, h'⟩
  · simp at hcs
    subst hcs
    exact ⟨_, _, _, d, p, rfl, fuel, h'⟩
theorem open_claim (hv : Value.okWide Try.prog W .any base 49 v) (h : DataW.Trod enc Try.prog W 0 (fun _ => true) true 49 v d p) :
    ∃ AP mp cp AL ml cl dP pP dL pL, v = .agg #[.slice AP mp cp, .slice AL ml cl] ∧ DataW.Trod enc Try.prog W 0 (fun _ => true) true 33 (.slice AP mp cp) dP pP ∧ DataW.Trod enc Try.prog W 0 (fun _ => true) true 41 (.slice AL ml cl) dL pL := by
  obtain ⟨⟨l⟩, rfl, hsz⟩ := okWide_struct Try.underlying49 hv
  match l, hsz.trans cellsCl with
  | [c0, c1], _ =>
    obtain ⟨fuel, hf⟩ := h
    obtain ⟨xs, n, _, _, _, hlen, hg⟩ := DataW.trod_struct Try.underlying49 hf
    match xs, hlen with
    | [y0, y1], _ =>
      have g0 := hg 0 _ rfl
      have g1 := hg 1 _ rfl
      simp [cellsPs, cellsIs, Value.cells] at g0 g1
      obtain ⟨AP, mp, cp, dP, pP, rfl, hP⟩ := slice_of Try.underlying33 g0
      obtain ⟨AL, ml, cl, dL, pL, rfl, hL⟩ := slice_of Try.underlying41 g1
      exact ⟨AP, mp, cp, AL, ml, cl, dP, pP, dL, pL, rfl, hP, hL⟩
end
end Go.Proofs.Ytmjnlmmjfbpogaa
