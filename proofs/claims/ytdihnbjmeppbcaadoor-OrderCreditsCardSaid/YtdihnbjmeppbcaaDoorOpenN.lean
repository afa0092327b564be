/- A market that came in, with what a nil list of prices is like. -/
import Derived.Test.YtdihnbjmeppbcaaDoorOpen
namespace Go.Proofs.YtdihnbjmeppbcaaDoor
open Go.ChangeShapes Go.WideShapes Go.ChangeAt Go.RowKit Go.Deep Go.Joins
set_option maxRecDepth 100000
set_option linter.unusedVariables false

section
variable {H : Type} {enc : TypeId × Value → H} {W : World} {base : Nat} {v : Value} {d : DataW H} {p : List MemPlace}
theorem nil_cell {x : DataW H × List MemPlace} {t e : TypeId} {fuel : Nat} {a0 : Option Addr} {n cap : Nat} (ht : Tryd.prog.underlying t = some (.slice e)) (hf : DataW.trod enc Tryd.prog W 0 (fun _ => true) true fuel t [.slice a0 n cap] = some x) : a0 = none → n = 0 ∧ cap = 0 := by
  rcases open_slice ht hf with ⟨hcs, _⟩ | ⟨a', len', cap', m', n', D', P', hcs, _⟩
  · simp at hcs
    exact fun _ => ⟨hcs.2.1, hcs.2.2⟩
  · simp at hcs
    intro h
    rw [hcs.1] at h
    cases h
theorem open_insN {a0 : Option Addr} {len cap : Nat} (h : DataW.Trod enc Tryd.prog W 0 (fun _ => true) true 46 (.slice a0 len cap) d p) : ∃ l : List Int, len = l.length ∧ Rows inL 1 W a0 l ∧ len ≤ cap ∧ cap ≤ maxLen ∧ (∀ x, x ∈ l → (Lit.int .i64 x).wf = true) ∧ (a0 = none → len = 0 ∧ cap = 0) := by
  obtain ⟨fuel, hf⟩ := h
  have hf' : DataW.trod enc Tryd.prog W 0 (fun _ => true) true fuel 46 [.slice a0 len cap] = some (d, p) := by simpa [Value.cells] using hf
  obtain ⟨l, h1, h2, h3, h4, h5⟩ := open_rows (ok := fun x => (Lit.int .i64 x).wf = true) Tryd.underlying46 cells3 encIn (fun fuel cs x hl hx => trod_one hx) hf'
  exact ⟨l, h1, h2, h3, h4, h5, nil_cell Tryd.underlying46 hf'⟩
theorem open_mkN (hv : Value.okWide Tryd.prog W .any base 25 v) (h : DataW.Trod enc Tryd.prog W 0 (fun _ => true) true 25 v d p) :
    ∃ A l k B r j, v = .agg #[.slice A (List.length l) k, .slice B (List.length r) j] ∧ PrsIn W A l k ∧ RtsIn W B r j ∧ (A = none → l.length = 0 ∧ k = 0) := by
  obtain ⟨⟨l⟩, rfl, hsz⟩ := okWide_struct Tryd.underlying25 hv
  obtain ⟨fuel, hf⟩ := h
  obtain ⟨xs, n, _, _, _, hlen, hg⟩ := DataW.trod_struct Tryd.underlying25 hf
  have hl : l.length = 2 := by simpa [Value.cells] using hsz.trans cellsMk
  match l, hl, xs, hlen with
  | [c0, c1], _, [y0, y1], _ =>
    have g0 := hg 0 _ rfl
    have g1 := hg 1 _ rfl
    simp [cells1p, cells1r, Value.cells] at g0 g1
    obtain ⟨l, a0, cap, rfl, h1, h2, h3, h4⟩ := trod_prs g0
    obtain ⟨r, b0, cap', rfl, k1, k2, k3, k4⟩ := trod_rts g1
    exact ⟨a0, l, cap, b0, r, cap', rfl, ⟨h1, h2, h3, h4⟩, ⟨k1, k2, k3, k4⟩, nil_cell Tryd.underlying22 g0⟩
end
end Go.Proofs.YtdihnbjmeppbcaaDoor
