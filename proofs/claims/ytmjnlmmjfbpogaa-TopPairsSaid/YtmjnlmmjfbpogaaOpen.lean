/- Arguments as they came in: temples, two temples, hinges, hinge cases, numbers, pairs, lists of temples, of pairs, of numbers. -/
import Derived.Test.YtmjnlmmjfbpogaaRows
import Derived.Test.YtmjnlmmjfbpogaaF1
import Derived.ChangeSlices
import Derived.ProofKit
import Derived.OpenShut
import Derived.Deep.SlicePairs
import Derived.Lib.SmallJoins
import Derived.Below
namespace Go.Proofs.Ytmjnlmmjfbpogaa
open Go.ChangeShapes Go.WideShapes Go.ChangeAt Go.RowKit Go.Deep Go.Joins
set_option maxRecDepth 100000

theorem own : ownKnob Try.prog.godebug = none := by kernel_rfl
theorem laidOut : laidOutB Try.prog = true := by kernel_rfl
theorem cells3 : Try.prog.cellsOf 3 = 1 := by kernel_rfl
theorem cells24 : Try.prog.cellsOf 24 = 4 := by kernel_rfl
theorem cells25 : Try.prog.cellsOf 25 = 8 := by kernel_rfl
theorem cells51 : Try.prog.cellsOf 51 = 2 := by kernel_rfl
theorem cells55 : Try.prog.cellsOf 55 = 4 := by kernel_rfl
theorem cells57 : Try.prog.cellsOf 57 = 7 := by kernel_rfl

section
variable {H : Type} {enc : TypeId × Value → H} {W : World} {base : Nat} {spare : Nat → Bool} {held : Bool} {fuel : Nat} {x : DataW H × List MemPlace}
theorem trod_one {cs : List Value} (h : DataW.trod enc Try.prog W base spare held fuel 3 cs = some x) : ∃ n, cs = [.int .i64 n] := by
  obtain ⟨n, e, _⟩ := DataW.trod_int (k := .i64) Try.underlying3 h
  exact ⟨n, e⟩
theorem trod_tm {cs : List Value} (hl : cs.length = 4) (h : DataW.trod enc Try.prog W base spare held fuel 24 cs = some x) : ∃ t : Pl.Tm, cs = (tmA t).toList := by
  match cs, hl with
  | [c0, c1, c2, c3], _ =>
    obtain ⟨xs, n, _, _, _, hlen, hg⟩ := DataW.trod_struct Try.underlying24 h
    match xs, hlen with
    | [y0, y1, y2, y3], _ =>
      have g0 := hg 0 _ rfl
      have g1 := hg 1 _ rfl
      have g2 := hg 2 _ rfl
      have g3 := hg 3 _ rfl
      simp [cells3] at g0 g1 g2 g3
      obtain ⟨k0, e0⟩ := trod_one g0
      obtain ⟨k1, e1⟩ := trod_one g1
      obtain ⟨k2, e2⟩ := trod_one g2
      obtain ⟨k3, e3⟩ := trod_one g3
      cases e0; cases e1; cases e2; cases e3
      exact ⟨⟨k0, k1, k2, k3⟩, rfl⟩
theorem trod_hg {cs : List Value} (hl : cs.length = 4) (h : DataW.trod enc Try.prog W base spare held fuel 55 cs = some x) : ∃ t : Pl.Hg, cs = (hgA t).toList := by
  match cs, hl with
  | [c0, c1, c2, c3], _ =>
    obtain ⟨xs, n, _, _, _, hlen, hg⟩ := DataW.trod_struct Try.underlying55 h
    match xs, hlen with
    | [y0, y1, y2, y3], _ =>
      have g0 := hg 0 _ rfl
      have g1 := hg 1 _ rfl
      have g2 := hg 2 _ rfl
      have g3 := hg 3 _ rfl
      simp [cells3] at g0 g1 g2 g3
      obtain ⟨k0, e0⟩ := trod_one g0
      obtain ⟨k1, e1⟩ := trod_one g1
      obtain ⟨k2, e2⟩ := trod_one g2
      obtain ⟨k3, e3⟩ := trod_one g3
      cases e0; cases e1; cases e2; cases e3
      exact ⟨⟨k0, k1, k2, k3⟩, rfl⟩
theorem trod_pr {cs : List Value} (h : DataW.trod enc Try.prog W base spare held fuel 51 cs = some x) : ∃ a b, cs = [.int .i64 a, .int .i64 b] := by
  obtain ⟨xs, m, _, _, hl, hlen, hg⟩ := DataW.trod_array Try.underlying51 h
  rw [cells51] at hl
  match cs, hl, xs, hlen with
  | [c0, c1], _, [y0, y1], _ =>
    have g0 := hg 0 (by omega)
    have g1 := hg 1 (by omega)
    simp only [cells3, Nat.mul_one, List.drop_zero, List.drop_succ_cons, List.take_succ_cons, List.take_zero, List.getElem?_cons_zero, List.getElem?_cons_succ] at g0 g1
    obtain ⟨n0, e0⟩ := trod_one g0
    obtain ⟨n1, e1⟩ := trod_one g1
    cases e0; cases e1
    exact ⟨n0, n1, rfl⟩
end
theorem okWide_agg {W : World} {base : Nat} {v : Value} {e : TypeId} {n : Nat} {t : TypeId} (ht : Try.prog.underlying t = some (.array n e)) (h : Value.okWide Try.prog W .any base t v) : ∃ cs, v = .agg cs := by
  simp only [Value.okWide, ht] at h
  obtain ⟨cs, h1, _⟩ := h
  exact ⟨cs, h1⟩
section
variable {H : Type} {enc : TypeId × Value → H} {W : World} {base : Nat} {v : Value} {d : DataW H} {p : List MemPlace}
theorem open_tm (hv : Value.okWide Try.prog W .any base 24 v) (h : DataW.Trod enc Try.prog W 0 (fun _ => true) true 24 v d p) : ∃ t : Pl.Tm, v = .agg (tmA t) := by
  obtain ⟨⟨l⟩, rfl, hsz⟩ := okWide_struct Try.underlying24 hv
  obtain ⟨fuel, hf⟩ := h
  obtain ⟨t, e⟩ := trod_tm (by simpa [Value.cells] using hsz.trans cells24) hf
  simp [Value.cells] at e
  exact ⟨t, by rw [e]⟩
theorem open_hg (hv : Value.okWide Try.prog W .any base 55 v) (h : DataW.Trod enc Try.prog W 0 (fun _ => true) true 55 v d p) : ∃ t : Pl.Hg, v = .agg (hgA t) := by
  obtain ⟨⟨l⟩, rfl, hsz⟩ := okWide_struct Try.underlying55 hv
  obtain ⟨fuel, hf⟩ := h
  obtain ⟨t, e⟩ := trod_hg (by simpa [Value.cells] using hsz.trans cells55) hf
  simp [Value.cells] at e
  exact ⟨t, by rw [e]⟩
theorem open_pr (hv : Value.okWide Try.prog W .any base 51 v) (h : DataW.Trod enc Try.prog W 0 (fun _ => true) true 51 v d p) : ∃ a b : Int, v = .agg #[.int .i64 a, .int .i64 b] := by
  obtain ⟨⟨l⟩, rfl⟩ := okWide_agg Try.underlying51 hv
  obtain ⟨fuel, hf⟩ := h
  obtain ⟨a, b, e⟩ := trod_pr hf
  simp [Value.cells] at e
  exact ⟨a, b, by rw [e]⟩
theorem open_case (hv : Value.okWide Try.prog W .any base 57 v) (h : DataW.Trod enc Try.prog W 0 (fun _ => true) true 57 v d p) :
    ∃ (t : Pl.Hg) (f n a : Int), v = .agg #[.int .i64 t.b, .int .i64 t.start, .int .i64 t.wear, .int .i64 t.tight, .int .i64 f, .int .i64 n, .int .i64 a] := by
  obtain ⟨⟨l⟩, rfl, hsz⟩ := okWide_struct Try.underlying57 hv
  match l, hsz.trans cells57 with
  | [c0, c1, c2, c3, c4, c5, c6], _ =>
    obtain ⟨fuel, hf⟩ := h
    obtain ⟨xs, n, _, _, _, hlen, hg⟩ := DataW.trod_struct Try.underlying57 hf
    match xs, hlen with
    | [y0, y1, y2, y3], _ =>
      have g0 := hg 0 _ rfl
      have g1 := hg 1 _ rfl
      have g2 := hg 2 _ rfl
      have g3 := hg 3 _ rfl
      simp [cells3, cells55, Value.cells] at g0 g1 g2 g3
      obtain ⟨t, e0⟩ := trod_hg rfl g0
      obtain ⟨k1, e1⟩ := trod_one g1
      obtain ⟨k2, e2⟩ := trod_one g2
      obtain ⟨k3, e3⟩ := trod_one g3
      cases e0; cases e1; cases e2; cases e3
      exact ⟨t, k1, k2, k3, rfl⟩
theorem open_two (hv : Value.okWide Try.prog W .any base 25 v) (h : DataW.Trod enc Try.prog W 0 (fun _ => true) true 25 v d p) :
    ∃ s t : Pl.Tm, v = .agg #[.int .i64 s.num, .int .i64 s.side, .int .i64 s.len, .int .i64 s.col, .int .i64 t.num, .int .i64 t.side, .int .i64 t.len, .int .i64 t.col] := by
  obtain ⟨⟨l⟩, rfl⟩ := okWide_agg Try.underlying25 hv
  obtain ⟨fuel, hf⟩ := h
  obtain ⟨xs, m, _, _, hl, hlen, hg⟩ := DataW.trod_array Try.underlying25 hf
  rw [cells25] at hl
  simp [Value.cells] at hl
  match l, hl, xs, hlen with
  | [c0, c1, c2, c3, c4, c5, c6, c7], _, [y0, y1], _ =>
    have g0 := hg 0 (by omega)
    have g1 := hg 1 (by omega)
    simp [cells24, Value.cells] at g0 g1
    obtain ⟨s, e0⟩ := trod_tm rfl g0
    obtain ⟨t, e1⟩ := trod_tm rfl g1
    cases e0; cases e1
    exact ⟨s, t, rfl⟩
end
/-- a slice of elements of k cells that came in -/
theorem open_rows {α : Type} {enc' : α → List Value} {k : Nat} {H : Type} {enc : TypeId × Value → H} {W : World} {a0 : Option Addr} {len cap : Nat} {d : DataW H} {p : List MemPlace} {t e : TypeId} (ht : Try.prog.underlying t = some (.slice e)) (ce : Try.prog.cellsOf e = k) (E : Enc enc' k)
    (hop : ∀ (fuel : Nat) (cs : List Value) (x : DataW H × List MemPlace), cs.length = k → DataW.trod enc Try.prog W 0 (fun _ => true) true fuel e cs = some x → ∃ y, cs = enc' y)
    (h : DataW.Trod enc Try.prog W 0 (fun _ => true) true t (.slice a0 len cap) d p) : ∃ l : List α, len = l.length ∧ Rows enc' k W a0 l ∧ len ≤ cap ∧ cap ≤ maxLen := by
  obtain ⟨fuel, hf⟩ := h
  rcases open_slice ht hf with ⟨hcs, _⟩ | ⟨a, len', cap', m, n, D, P, hcs, hb, hl, hm, hmm, hx, hc⟩
  · simp [Value.cells] at hcs
    obtain ⟨rfl, rfl, rfl⟩ := hcs
    exact ⟨[], rfl, .inl rfl, Nat.le_refl _, by unfold maxLen; omega⟩
  · simp [Value.cells] at hcs
    obtain ⟨rfl, rfl, rfl⟩ := hcs
    have hmm' : m = cap := by simpa using hmm
    rw [ce] at hc
    have each : ∀ i, i < len → ∃ y : α, W.cells? 0 (a.add (i * k)) k = some (enc' y) := fun i hi => by
      obtain ⟨cs', h1, h2⟩ := hc i (by omega)
      obtain ⟨y, rfl⟩ := hop n cs' _ (World.cells?_some h1).2.1 h2
      exact ⟨y, h1⟩
    by_cases h0 : len = 0
    · subst h0; exact ⟨[], rfl, .inl rfl, hl, hm⟩
    obtain ⟨y0, _⟩ := each 0 (by omega)
    haveI : Inhabited α := ⟨y0⟩
    obtain ⟨V, hV⟩ := choose_lt (α := α) (p := fun i y => W.cells? 0 (a.add (i * k)) k = some (enc' y)) each
    refine ⟨(List.range len).map V, by simp, .inr ?_, hl, hm⟩
    obtain ⟨b, off, spot⟩ := a
    have hc0 := (World.cells?_some (hV 0 (by omega))).2.2 0 E.pos
    rw [List.getElem?_eq_getElem (by rw [E.len]; exact E.pos)] at hc0
    have hspot : spot = none := by
      have := World.cell?_spot hc0
      simpa [Addr.add] using this
    subst hspot
    have hcell : ∀ i, i < len → ∀ j, j < k → W.cell? ⟨b, off + i * k + j, none⟩ = (enc' (V i))[j]? := fun i hi j hj => by
      have h1 := (World.cells?_some (hV i hi)).2.2 j hj
      rw [Go.WideShapes.add_plain, Go.WideShapes.add_plain] at h1
      exact h1
    refine ⟨b, off, rfl, ?_, fun i hi j v hj => ?_⟩
    · have := World.block_lt_of_cell? W _ hc0
      simpa [Addr.add] using this
    · have hi' : i < len := by simpa using hi
      have hjk : j < k := by
        rcases Nat.lt_or_ge j k with e | e
        · exact e
        · rw [List.getElem?_eq_none (by rw [E.len]; exact e)] at hj; cases hj
      rw [hcell i hi' j hjk]
      simpa using hj
theorem encTm : Enc (fun t : Pl.Tm => (tmA t).toList) 4 where
  pos := by decide
  len _ := rfl
  one x v hv := by simp at hv; rcases hv with rfl | rfl | rfl | rfl <;> rfl
/-- a pair of numbers as it came in -/
abbrev ipL (p : Int × Int) : List Value := [.int .i64 p.1, .int .i64 p.2]
theorem encIp : Enc ipL 2 where
  pos := by decide
  len _ := rfl
  one x v hv := by simp [ipL] at hv; rcases hv with rfl | rfl <;> rfl
/-- a number as it came in -/
abbrev inL (x : Int) : List Value := [.int .i64 x]
theorem encIn : Enc inL 1 where
  pos := by decide
  len _ := rfl
  one x v hv := by simp [inL] at hv; subst hv; rfl
theorem tms_rows {W : World} {A : Option Addr} {l : List Pl.Tm} (h : Rows (fun t : Pl.Tm => (tmA t).toList) 4 W A l) : Tms W A l := by
  rcases h with h | ⟨b, off, h1, h2, h3⟩
  · exact .inl h
  · refine .inr ⟨b, off, h1, h2, fun k hk => ?_⟩
    rw [List.getD_eq_getElem?_getD, List.getElem?_eq_getElem hk]
    exact h3 k hk
section
variable {H : Type} {enc : TypeId × Value → H} {W : World} {a0 : Option Addr} {len cap : Nat} {d : DataW H} {p : List MemPlace}
theorem open_tms (h : DataW.Trod enc Try.prog W 0 (fun _ => true) true 22 (.slice a0 len cap) d p) : ∃ l : List Pl.Tm, len = l.length ∧ Tms W a0 l ∧ len ≤ cap ∧ cap ≤ maxLen := by
  obtain ⟨l, h1, h2, h3, h4⟩ := open_rows Try.underlying22 cells24 encTm (fun fuel cs x hl hx => trod_tm hl hx) h
  exact ⟨l, h1, tms_rows h2, h3, h4⟩
theorem open_prs (h : DataW.Trod enc Try.prog W 0 (fun _ => true) true 33 (.slice a0 len cap) d p) : ∃ l : List (Int × Int), len = l.length ∧ Rows ipL 2 W a0 l ∧ len ≤ cap ∧ cap ≤ maxLen :=
  open_rows Try.underlying33 cells51 encIp (fun fuel cs x hl hx => by obtain ⟨a, b, e⟩ := trod_pr hx; exact ⟨(a, b), e⟩) h
theorem open_ins (h : DataW.Trod enc Try.prog W 0 (fun _ => true) true 41 (.slice a0 len cap) d p) : ∃ l : List Int, len = l.length ∧ Rows inL 1 W a0 l ∧ len ≤ cap ∧ cap ≤ maxLen :=
  open_rows Try.underlying41 cells3 encIn (fun fuel cs x hl hx => by obtain ⟨a, e⟩ := trod_one hx; exact ⟨a, e⟩) h
end
end Go.Proofs.Ytmjnlmmjfbpogaa
