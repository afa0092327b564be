/- A trace that came in. -/
import Derived.Test.YthabpgclnbmnpaaGreatDoorOpenC
import Derived.ChangeMaps5
namespace Go.Proofs.YthabpgclnbmnpaaGreatDoor
open Go.ChangeShapes Go.WideShapes Go.ChangeAt Go.RowKit Go.Deep Go.Joins
set_option maxRecDepth 100000
set_option linter.unusedVariables false

theorem cellsS : Tryz.prog.cellsOf 9 = 1 := by kernel_rfl
theorem cellsU : Tryz.prog.cellsOf 5 = 1 := by kernel_rfl
theorem cellsL : Tryz.prog.cellsOf 22 = 1 := by kernel_rfl
theorem cellsT : Tryz.prog.cellsOf 24 = 3 := by kernel_rfl
theorem open_tr {H : Type} {enc : TypeId × Value → H} {W : World} {base : Nat} {v : Value} {d : DataW H} {p : List MemPlace}
    (hv : Value.okWide Tryz.prog W .any base 24 v) (h : DataW.Trod enc Tryz.prog W 0 (fun _ => true) true 24 v d p) :
    ∃ (j : ByteArray) (b : UInt8) (A : Option Addr) (l : List Geo.XY) (c : Nat), v = .agg #[.string j, .int .u8 b.toNat, .slice A l.length c] ∧ j.size ≤ maxLen ∧ Pts W A l ∧ l.length ≤ c := by
  obtain ⟨⟨l⟩, rfl, hsz⟩ := okWide_struct Tryz.underlying24 hv
  obtain ⟨fuel, hf⟩ := h
  obtain ⟨xs, n, _, _, _, hlen, hg⟩ := DataW.trod_struct Tryz.underlying24 hf
  have hl : l.length = 3 := by simpa [Value.cells] using hsz.trans cellsT
  match l, hl, xs, hlen with
  | [c0, c1, c2], _, [y0, y1, y2], _ =>
    have g0 := hg 0 _ rfl
    have g1 := hg 1 _ rfl
    have g2 := hg 2 _ rfl
    simp [cellsS, cellsU, cellsL, Value.cells] at g0 g1 g2
    obtain ⟨s, e0, _, hs⟩ := DataW.trod_string Tryz.underlying9 g0
    obtain ⟨n, e1, _, hw⟩ := DataW.trod_int (k := .u8) Tryz.underlying5 g1
    cases e0
    cases e1
    have hn : 0 ≤ n ∧ n ≤ 255 := by
      simp [Lit.wf, IntKind.min, IntKind.max, IntKind.signed, IntKind.bits] at hw
      omega
    have hb : ((UInt8.ofNat n.toNat).toNat : Int) = n := by rw [UInt8.toNat_ofNat']; omega
    rcases open_slice Tryz.underlying22 g2 with ⟨hcs, _⟩ | ⟨a, len', cap', m, n', D, P, hcs, _⟩
    · simp at hcs
      subst hcs
      exact ⟨s, UInt8.ofNat n.toNat, none, [], 0, by rw [hb]; rfl, hs, .inl rfl, Nat.le_refl _⟩
    · simp at hcs
      subst hcs
      obtain ⟨l, hl, hP, hc⟩ := open_ptsC (d := _) (p := _) ⟨_, by simpa [Value.cells] using g2⟩
      subst hl
      exact ⟨s, UInt8.ofNat n.toNat, some a, l, cap', by rw [hb], hs, hP, hc⟩
end Go.Proofs.YthabpgclnbmnpaaGreatDoor
