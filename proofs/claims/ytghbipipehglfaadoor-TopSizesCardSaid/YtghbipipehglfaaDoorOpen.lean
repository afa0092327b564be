/- Arguments as they came in: sizes, heads, arrays of five, numbers, lists of numbers. -/
import Derived.Test.YtghbipipehglfaaDoorRows
import Derived.Test.YtghbipipehglfaaDoorA0
import Derived.ChangeSlices
import Derived.ProofKit
import Derived.OpenShut
import Derived.Deep.SlicePairs
import Derived.Lib.SmallJoins
import Derived.Below
namespace Go.Proofs.YtghbipipehglfaaDoor
open Go.ChangeShapes Go.WideShapes Go.ChangeAt Go.RowKit Go.Deep Go.Joins
set_option maxRecDepth 100000

theorem own : ownKnob Tryd.prog.godebug = none := by kernel_rfl
theorem laidOut : laidOutB Tryd.prog = true := by kernel_rfl
theorem cells3 : Tryd.prog.cellsOf 3 = 1 := by kernel_rfl
theorem cells22 : Tryd.prog.cellsOf 32 = 5 := by kernel_rfl
theorem cells24 : Tryd.prog.cellsOf 46 = 17 := by kernel_rfl
theorem cells26 : Tryd.prog.cellsOf 34 = 6 := by kernel_rfl

section
variable {H : Type} {enc : TypeId × Value → H} {W : World} {base : Nat} {spare : Nat → Bool} {held : Bool} {fuel : Nat} {x : DataW H × List MemPlace}
theorem trod_one {cs : List Value} (h : DataW.trod enc Tryd.prog W base spare held fuel 3 cs = some x) : ∃ n, cs = [.int .i64 n] := by
  obtain ⟨n, e, _⟩ := DataW.trod_int (k := .i64) Tryd.underlying3 h
  exact ⟨n, e⟩
theorem trod_five {cs : List Value} (h : DataW.trod enc Tryd.prog W base spare held fuel 32 cs = some x) : ∃ n0 n1 n2 n3 n4, cs = [.int .i64 n0, .int .i64 n1, .int .i64 n2, .int .i64 n3, .int .i64 n4] := by
  obtain ⟨xs, m, _, _, hl, hlen, hg⟩ := DataW.trod_array Tryd.underlying32 h
  rw [cells22] at hl
  match cs, hl, xs, hlen with
  | [c0, c1, c2, c3, c4], _, [y0, y1, y2, y3, y4], _ =>
    have g0 := hg 0 (by omega)
    have g1 := hg 1 (by omega)
    have g2 := hg 2 (by omega)
    have g3 := hg 3 (by omega)
    have g4 := hg 4 (by omega)
    simp only [cells3, Nat.mul_one, List.drop_zero, List.drop_succ_cons, List.take_succ_cons, List.take_zero, List.getElem?_cons_zero, List.getElem?_cons_succ] at g0 g1 g2 g3 g4
    obtain ⟨n0, e0⟩ := trod_one g0
    obtain ⟨n1, e1⟩ := trod_one g1
    obtain ⟨n2, e2⟩ := trod_one g2
    obtain ⟨n3, e3⟩ := trod_one g3
    obtain ⟨n4, e4⟩ := trod_one g4
    cases e0; cases e1; cases e2; cases e3; cases e4
    exact ⟨n0, n1, n2, n3, n4, rfl⟩
end
/-- the function of five numbers -/
def fn5 (n0 n1 n2 n3 n4 : Int) (i : Nat) : Int := [n0, n1, n2, n3, n4].getD i 0

theorem open_five {H : Type} {enc : TypeId × Value → H} {W : World} {v : Value} {d : DataW H} {p : List MemPlace}
    (hv : ∃ cs, v = .agg cs) (h : DataW.Trod enc Tryd.prog W 0 (fun _ => true) true 32 v d p) : ∃ f : Nat → Int, v = .agg (a5A f) := by
  obtain ⟨⟨l⟩, rfl⟩ := hv
  obtain ⟨fuel, hf⟩ := h
  obtain ⟨n0, n1, n2, n3, n4, e⟩ := trod_five hf
  simp [Value.cells] at e
  exact ⟨fn5 n0 n1 n2 n3 n4, by rw [e]; rfl⟩
theorem okWide_five {W : World} {base : Nat} {v : Value} (h : Value.okWide Tryd.prog W .any base 32 v) : ∃ cs, v = .agg cs := by
  simp only [Value.okWide, Tryd.underlying32] at h
  obtain ⟨cs, h1, _⟩ := h
  exact ⟨cs, h1⟩
theorem open_head {H : Type} {enc : TypeId × Value → H} {W : World} {base : Nat} {v : Value} {d : DataW H} {p : List MemPlace}
    (hv : Value.okWide Tryd.prog W .any base 34 v) (h : DataW.Trod enc Tryd.prog W 0 (fun _ => true) true 34 v d p) : ∃ s : Pl.Hd, v = .agg (hdA s) := by
  obtain ⟨⟨l⟩, rfl, hsz⟩ := okWide_struct Tryd.underlying34 hv
  match l, hsz.trans cells26 with
  | [c0, c1, c2, c3, c4, c5], _ =>
    obtain ⟨fuel, hf⟩ := h
    obtain ⟨xs, n, _, _, _, hlen, hg⟩ := DataW.trod_struct Tryd.underlying34 hf
    match xs, hlen with
    | [y0, y1], _ =>
      have g0 := hg 0 _ rfl
      have g1 := hg 1 _ rfl
      simp [cells3, cells22, Value.cells] at g0 g1
      obtain ⟨k, e0⟩ := trod_one g0
      obtain ⟨n0, n1, n2, n3, n4, e1⟩ := trod_five g1
      cases e0; cases e1
      exact ⟨⟨k, fn5 n0 n1 n2 n3 n4⟩, rfl⟩
theorem open_size {H : Type} {enc : TypeId × Value → H} {W : World} {base : Nat} {v : Value} {d : DataW H} {p : List MemPlace}
    (hv : Value.okWide Tryd.prog W .any base 46 v) (h : DataW.Trod enc Tryd.prog W 0 (fun _ => true) true 46 v d p) : ∃ s : Pl.Sz, v = .agg (szA s) := by
  obtain ⟨⟨l⟩, rfl, hsz⟩ := okWide_struct Tryd.underlying46 hv
  match l, hsz.trans cells24 with
  | [c0, c1, c2, c3, c4, c5, c6, c7, c8, c9, c10, c11, c12, c13, c14, c15, c16], _ =>
    obtain ⟨fuel, hf⟩ := h
    obtain ⟨xs, n, _, _, _, hlen, hg⟩ := DataW.trod_struct Tryd.underlying46 hf
    match xs, hlen with
    | [y0, y1, y2, y3, y4], _ =>
      have g0 := hg 0 _ rfl
      have g1 := hg 1 _ rfl
      have g2 := hg 2 _ rfl
      have g3 := hg 3 _ rfl
      have g4 := hg 4 _ rfl
      simp [cells3, cells22, Value.cells] at g0 g1 g2 g3 g4
      obtain ⟨k, e0⟩ := trod_one g0
      obtain ⟨n0, n1, n2, n3, n4, e1⟩ := trod_five g1
      obtain ⟨m0, m1, m2, m3, m4, e2⟩ := trod_five g2
      obtain ⟨q0, q1, q2, q3, q4, e3⟩ := trod_five g3
      obtain ⟨t, e4⟩ := trod_one g4
      cases e0; cases e1; cases e2; cases e3; cases e4
      exact ⟨⟨k, fn5 n0 n1 n2 n3 n4, fn5 m0 m1 m2 m3 m4, fn5 q0 q1 q2 q3 q4, t⟩, rfl⟩
theorem open_list {H : Type} {enc : TypeId × Value → H} {W : World} {a0 : Option Addr} {len cap : Nat} {d : DataW H} {p : List MemPlace}
    (h : DataW.Trod enc Tryd.prog W 0 (fun _ => true) true 31 (.slice a0 len cap) d p) : ∃ l : List Int, len = l.length ∧ Ints W a0 l := by
  obtain ⟨fuel, hf⟩ := h
  rcases open_ints (k := .i64) Tryd.underlying31 Tryd.underlying3 cells3 hf with ⟨hcs, _⟩ | ⟨a, len', cap', zs, hcs, hb, hl, hm, hlen, hx, hc, hw⟩
  · simp [Value.cells] at hcs
    obtain ⟨rfl, rfl, rfl⟩ := hcs
    exact ⟨[], rfl, .inl rfl⟩
  · simp [Value.cells] at hcs
    obtain ⟨rfl, rfl, rfl⟩ := hcs
    have hlen' : zs.length = cap := by simpa using hlen
    have htl : (zs.take len).length = len := by rw [List.length_take]; omega
    refine ⟨zs.take len, htl.symm, ?_⟩
    by_cases h0 : len = 0
    · subst h0; exact .inl rfl
    · right
      obtain ⟨b, off, spot⟩ := a
      have hc0 := hc 0 (by omega)
      have hspot : spot = none := by simpa [Addr.add] using World.cell?_spot hc0
      subst hspot
      refine ⟨b, off, rfl, ?_, fun k hk => ?_⟩
      · have := World.block_lt_of_cell? W _ hc0
        simpa [Addr.add] using this
      · rw [htl] at hk
        have g0 := hc k (by omega)
        rw [Go.WideShapes.add_plain] at g0
        rw [g0, List.getD_eq_getElem?_getD, List.getD_eq_getElem?_getD, List.getElem?_take_of_lt hk]
end Go.Proofs.YtghbipipehglfaaDoor
