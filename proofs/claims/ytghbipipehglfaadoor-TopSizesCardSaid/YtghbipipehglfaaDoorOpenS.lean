/- Lists of sizes and of heads as they came in; the table of TrailingZeros64 as it is laid. -/
import Derived.Test.YtghbipipehglfaaDoorOpen
import Derived.Test.YtghbipipehglfaaDoorB1
import Derived.Test.YtghbipipehglfaaDoorC1
import Derived.LaidMore
import Derived.Lay
import Derived.LaidOnce
import Derived.MakeChecks
namespace Go.Proofs.YtghbipipehglfaaDoor
open Go.ChangeShapes Go.WideShapes Go.ChangeAt Go.RowKit Go.Deep Go.Joins
set_option maxRecDepth 100000

/-- what every value of a type takes in memory -/
structure Enc {α : Type} (enc : α → List Value) (k : Nat) : Prop where
  pos : 0 < k
  len : ∀ x, (enc x).length = k
/-- a row of values that came in -/
def RowsIn {α : Type} (enc : α → List Value) (k : Nat) (W : World) (A : Option Addr) (xs : List α) : Prop :=
  xs = [] ∨ ∃ b off, A = some ⟨b, off, none⟩ ∧ b < W.heap.size ∧ ∀ (i : Nat) (hi : i < xs.length), W.rangeAt b (off + i * k) (enc xs[i])
theorem open_rows {α : Type} {enc' : α → List Value} {k : Nat} {H : Type} {enc : TypeId × Value → H} {W : World} {a0 : Option Addr} {len cap : Nat} {d : DataW H} {p : List MemPlace} {t e : TypeId} (ht : Tryd.prog.underlying t = some (.slice e)) (ce : Tryd.prog.cellsOf e = k) (E : Enc enc' k)
    (hop : ∀ (fuel : Nat) (cs : List Value) (x : DataW H × List MemPlace), cs.length = k → DataW.trod enc Tryd.prog W 0 (fun _ => true) true fuel e cs = some x → ∃ y, cs = enc' y)
    (h : DataW.Trod enc Tryd.prog W 0 (fun _ => true) true t (.slice a0 len cap) d p) : ∃ l : List α, len = l.length ∧ RowsIn enc' k W a0 l ∧ len ≤ cap ∧ cap ≤ maxLen := by
  obtain ⟨fuel, hf⟩ := h
  rcases open_slice ht hf with ⟨hcs, _⟩ | ⟨a, len', cap', m, n, D, P, hcs, hb, hl, hm, hmm, hx, hc⟩
  · simp [Value.cells] at hcs
    obtain ⟨rfl, rfl, rfl⟩ := hcs
    exact ⟨[], rfl, .inl rfl, Nat.le_refl _, by unfold maxLen; omega⟩
  · simp [Value.cells] at hcs
    obtain ⟨rfl, rfl, rfl⟩ := hcs
    have hmm' : m = cap := by simpa using hmm
    rw [ce] at hc
    have each : ∀ i, i < len → ∃ y : α, W.cells? 0 (a.add (i * k)) k = some (enc' y) := fun i hi => by
      obtain ⟨cs', h1, h2⟩ := hc i (by omega)
      obtain ⟨y, rfl⟩ := hop n cs' _ (World.cells?_some h1).2.1 h2
      exact ⟨y, h1⟩
    by_cases h0 : len = 0
    · subst h0; exact ⟨[], rfl, .inl rfl, hl, hm⟩
    obtain ⟨y0, _⟩ := each 0 (by omega)
    haveI : Inhabited α := ⟨y0⟩
    obtain ⟨V, hV⟩ := choose_lt (α := α) (p := fun i y => W.cells? 0 (a.add (i * k)) k = some (enc' y)) each
    refine ⟨(List.range len).map V, by simp, .inr ?_, hl, hm⟩
    obtain ⟨b, off, spot⟩ := a
    have hc0 := (World.cells?_some (hV 0 (by omega))).2.2 0 E.pos
    rw [List.getElem?_eq_getElem (by rw [E.len]; exact E.pos)] at hc0
    have hspot : spot = none := by
      have := World.cell?_spot hc0
      simpa [Addr.add] using this
    subst hspot
    have hcell : ∀ i, i < len → ∀ j, j < k → W.cell? ⟨b, off + i * k + j, none⟩ = (enc' (V i))[j]? := fun i hi j hj => by
      have h1 := (World.cells?_some (hV i hi)).2.2 j hj
      rw [Go.WideShapes.add_plain, Go.WideShapes.add_plain] at h1
      exact h1
    refine ⟨b, off, rfl, ?_, fun i hi j v hj => ?_⟩
    · have := World.block_lt_of_cell? W _ hc0
      simpa [Addr.add] using this
    · have hi' : i < len := by simpa using hi
      have hjk : j < k := by
        rcases Nat.lt_or_ge j k with e | e
        · exact e
        · rw [List.getElem?_eq_none (by rw [E.len]; exact e)] at hj; cases hj
      rw [hcell i hi' j hjk]
      simpa using hj
theorem encSz : Enc (fun t : Pl.Sz => (szA t).toList) 17 := ⟨by decide, fun _ => rfl⟩
theorem encHd : Enc (fun t : Pl.Hd => (hdA t).toList) 6 := ⟨by decide, fun _ => rfl⟩
theorem encIn : Enc (fun x : Int => [Value.int .i64 x]) 1 := ⟨by decide, fun _ => rfl⟩
section
variable {H : Type} {enc : TypeId × Value → H} {W : World} {base : Nat} {spare : Nat → Bool} {held : Bool} {fuel : Nat} {x : DataW H × List MemPlace}
theorem trod_hd {cs : List Value} (hl : cs.length = 6) (h : DataW.trod enc Tryd.prog W base spare held fuel 34 cs = some x) : ∃ t : Pl.Hd, cs = (hdA t).toList := by
  match cs, hl with
  | [c0, c1, c2, c3, c4, c5], _ =>
    obtain ⟨xs, n, _, _, _, hlen, hg⟩ := DataW.trod_struct Tryd.underlying34 h
    match xs, hlen with
    | [y0, y1], _ =>
      have g0 := hg 0 _ rfl
      have g1 := hg 1 _ rfl
      simp [cells3, cells22] at g0 g1
      obtain ⟨k, e0⟩ := trod_one g0
      obtain ⟨n0, n1, n2, n3, n4, e1⟩ := trod_five g1
      cases e0; cases e1
      exact ⟨⟨k, fn5 n0 n1 n2 n3 n4⟩, rfl⟩
theorem trod_sz {cs : List Value} (hl : cs.length = 17) (h : DataW.trod enc Tryd.prog W base spare held fuel 46 cs = some x) : ∃ t : Pl.Sz, cs = (szA t).toList := by
  match cs, hl with
  | [c0, c1, c2, c3, c4, c5, c6, c7, c8, c9, c10, c11, c12, c13, c14, c15, c16], _ =>
    obtain ⟨xs, n, _, _, _, hlen, hg⟩ := DataW.trod_struct Tryd.underlying46 h
    match xs, hlen with
    | [y0, y1, y2, y3, y4], _ =>
      have g0 := hg 0 _ rfl
      have g1 := hg 1 _ rfl
      have g2 := hg 2 _ rfl
      have g3 := hg 3 _ rfl
      have g4 := hg 4 _ rfl
      simp [cells3, cells22] at g0 g1 g2 g3 g4
      obtain ⟨k, e0⟩ := trod_one g0
      obtain ⟨n0, n1, n2, n3, n4, e1⟩ := trod_five g1
      obtain ⟨m0, m1, m2, m3, m4, e2⟩ := trod_five g2
      obtain ⟨q0, q1, q2, q3, q4, e3⟩ := trod_five g3
      obtain ⟨t, e4⟩ := trod_one g4
      cases e0; cases e1; cases e2; cases e3; cases e4
      exact ⟨⟨k, fn5 n0 n1 n2 n3 n4, fn5 m0 m1 m2 m3 m4, fn5 q0 q1 q2 q3 q4, t⟩, rfl⟩
end
section
variable {H : Type} {enc : TypeId × Value → H} {W : World} {a0 : Option Addr} {len cap : Nat} {d : DataW H} {p : List MemPlace}
theorem open_szs (h : DataW.Trod enc Tryd.prog W 0 (fun _ => true) true 22 (.slice a0 len cap) d p) : ∃ l : List Pl.Sz, len = l.length ∧ Szs W a0 l ∧ len ≤ cap ∧ cap ≤ 9223372036854775807 := by
  obtain ⟨l, h1, h2, h3, h4⟩ := open_rows Tryd.underlying22 cells24 encSz (fun fuel cs x hl hx => trod_sz hl hx) h
  refine ⟨l, h1, ?_, h3, by simpa [maxLen] using h4⟩
  rcases h2 with h | ⟨b, off, h1, h2, h3⟩
  · exact .inl h
  · refine .inr ⟨b, off, h1, h2, fun k hk => ?_⟩
    rw [List.getD_eq_getElem?_getD, List.getElem?_eq_getElem hk]
    exact h3 k hk
theorem open_hds (h : DataW.Trod enc Tryd.prog W 0 (fun _ => true) true 23 (.slice a0 len cap) d p) : ∃ l : List Pl.Hd, len = l.length ∧ Hds W a0 l ∧ len ≤ cap ∧ cap ≤ 9223372036854775807 := by
  obtain ⟨l, h1, h2, h3, h4⟩ := open_rows Tryd.underlying23 cells26 encHd (fun fuel cs x hl hx => trod_hd hl hx) h
  refine ⟨l, h1, ?_, h3, by simpa [maxLen] using h4⟩
  rcases h2 with h | ⟨b, off, h1, h2, h3⟩
  · exact .inl h
  · refine .inr ⟨b, off, h1, h2, fun k hk => ?_⟩
    rw [List.getD_eq_getElem?_getD, List.getElem?_eq_getElem hk]
    exact h3 k hk
theorem open_nums (h : DataW.Trod enc Tryd.prog W 0 (fun _ => true) true 31 (.slice a0 len cap) d p) : ∃ l : List Int, len = l.length ∧ Ints W a0 l ∧ len ≤ cap ∧ cap ≤ 9223372036854775807 := by
  obtain ⟨l, h1, h2, h3, h4⟩ := open_rows Tryd.underlying31 cells3 encIn (fun fuel cs x hl hx => trod_one hx) h
  refine ⟨l, h1, ?_, h3, by simpa [maxLen] using h4⟩
  rcases h2 with h | ⟨b, off, h1, h2, h3⟩
  · exact .inl h
  · refine .inr ⟨b, off, h1, h2, fun k hk => ?_⟩
    rw [List.getD_eq_getElem?_getD, List.getElem?_eq_getElem hk]
    have := h3 k hk 0 _ rfl
    simpa using this
end

/-- the listed variable, with what it holds -/
def laidL : List (String × DataW Unit) := [("math/bits.deBruijn64tab", Rows.laid_math_bits_deBruijn64tab)]
theorem tab_of_laid {W : World} (h : laidMetH Tryd.prog laidL W) : Tab W := by
  rw [MakeChecks.laidMetH_plain _ _ _ (by kernel_rfl)] at h
  obtain ⟨ps, ⟨g, t, cs, fuel, p, q, hg, ht, hv, hd, _, _⟩, _, _⟩ := h
  obtain rfl := Option.some.inj ((show Tryd.prog.globalNamed "math/bits.deBruijn64tab" = some 0 by kernel_rfl).symm.trans hg)
  obtain rfl := Option.some.inj ((show (Tryd.prog.globals[0]?).map (·.type) = some 119 by kernel_rfl).symm.trans ht)
  obtain ⟨xs, m, _, ex, _, hl, hel⟩ := DataW.trod_array Tryd.underlying119 hd
  have c5 : Tryd.prog.cellsOf 5 = 1 := by kernel_rfl
  have hlen : Lib.deBruijn64tab.length = 64 := by decide
  have e3 : (xs.map (·.1)) = Lib.deBruijn64tab.map fun n : Nat => .lit (.int .u8 (n : Int)) := (DataW.agg.inj (Prod.mk.inj ex).1).symm.trans (by kernel_rfl)
  have cell : ∀ r, r < 64 → W.cell? ⟨0, r, none⟩ = some (.int .u8 (Lib.deBruijn64tab.getD r 0)) := fun r hr => by
    have hE := hel r hr
    rw [c5, Nat.mul_one, List.getElem?_eq_getElem (by omega)] at hE
    obtain ⟨z, e1, e2, _⟩ := DataW.trod_int Tryd.underlying5 hE
    have e4 : (xs.map (·.1))[r]? = (Lib.deBruijn64tab.map fun n : Nat => (DataW.lit (.int .u8 (n : Int)) : DataW Unit))[r]? := by rw [e3]
    rw [List.getElem?_map, List.getElem?_map, List.getElem?_eq_getElem (by omega : r < xs.length), List.getElem?_eq_getElem (by omega : r < Lib.deBruijn64tab.length), e2] at e4
    have hz : z = ((Lib.deBruijn64tab.getD r 0 : Nat) : Int) := by
      simp only [Option.map_some, Option.some.injEq, DataW.lit.injEq, Lit.int.injEq, true_and] at e4
      rw [e4, List.getD_eq_getElem?_getD, List.getElem?_eq_getElem (by omega : r < Lib.deBruijn64tab.length)]; rfl
    rw [World.var?_cell hg hv r, ← hz]
    have : cs.toList[r]? = some (.int .u8 z) := by
      have h0 : ((cs.toList.drop r).take 1)[0]? = some (.int .u8 z) := by rw [e1]; rfl
      simpa using h0
    simpa using this
  refine ⟨?_, fun j hj => cell j (by rw [hlen] at hj; exact hj)⟩
  have := World.block_lt_of_cell? W _ (cell 0 (by decide))
  exact this
end Go.Proofs.YtghbipipehglfaaDoor
