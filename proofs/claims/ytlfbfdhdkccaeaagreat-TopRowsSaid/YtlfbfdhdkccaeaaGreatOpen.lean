/- Arguments as they came in: numbers, batches, runs, lists of batches, of numbers, lists of lists of numbers and of runs. -/
import Derived.Test.YtlfbfdhdkccaeaaGreatRows
import Derived.Test.YtlfbfdhdkccaeaaGreatW1
import Derived.Test.YtlfbfdhdkccaeaaGreatPZ
import Derived.ChangeSlices
import Derived.ProofKit
import Derived.OpenShut
import Derived.Deep.SlicePairs
import Derived.Lib.SmallJoins
import Derived.Below
namespace Go.Proofs.YtlfbfdhdkccaeaaGreat
open Go.ChangeShapes Go.WideShapes Go.ChangeAt Go.RowKit Go.Deep Go.Joins
set_option maxRecDepth 100000

theorem own : ownKnob Tryz.prog.godebug = none := by kernel_rfl
theorem laidOut : laidOutB Tryz.prog = true := by kernel_rfl
theorem cells3 : Tryz.prog.cellsOf 3 = 1 := by kernel_rfl
theorem cells4 : Tryz.prog.cellsOf 4 = 1 := by kernel_rfl
theorem cells25 : Tryz.prog.cellsOf 48 = 7 := by kernel_rfl
theorem cells23 : Tryz.prog.cellsOf 46 = 4 := by kernel_rfl
theorem cellsRn : Tryz.prog.cellsOf 60 = 4 := by kernel_rfl
theorem cells42 : Tryz.prog.cellsOf 32 = 1 := by kernel_rfl
theorem cells89 : Tryz.prog.cellsOf 63 = 1 := by kernel_rfl

abbrev rnA (r : Pl.Rn) : Array Value := #[.int .i64 r.b, .int .i64 r.f, .int .i64 r.t, .bool r.c]
abbrev rnL (r : Pl.Rn) : List Value := [.int .i64 r.b, .int .i64 r.f, .int .i64 r.t, .bool r.c]
theorem encRn : Enc rnL 4 where
  pos := by decide
  len _ := rfl
  one x v hv := by simp [rnL] at hv; rcases hv with rfl | rfl | rfl | rfl <;> rfl
theorem encBt : Enc (fun t : Pl.Bt => (btA t).toList) 7 where
  pos := by decide
  len _ := rfl
  one x v hv := by simp at hv; rcases hv with rfl | rfl | rfl | rfl | rfl | rfl | rfl <;> rfl
theorem w64_of {x : Int} (h : (Lit.int .i64 x).wf = true) : Pl.W64 x := by
  simp [Lit.wf, IntKind.min, IntKind.max, IntKind.signed, IntKind.bits] at h
  unfold Pl.W64
  omega
theorem u8_nat {x : Int} (h : (Lit.int .u8 x).wf = true) : ∃ n : Nat, n ≤ 255 ∧ x = n := by
  simp [Lit.wf, IntKind.min, IntKind.max, IntKind.signed, IntKind.bits] at h
  exact ⟨x.toNat, by omega, by omega⟩

section
variable {H : Type} {enc : TypeId × Value → H} {W : World} {base : Nat} {spare : Nat → Bool} {held : Bool} {fuel : Nat} {x : DataW H × List MemPlace}
theorem trod_one {cs : List Value} (h : DataW.trod enc Tryz.prog W base spare held fuel 3 cs = some x) : ∃ n, cs = [.int .i64 n] ∧ Pl.W64 n := by
  obtain ⟨n, e, _, hw⟩ := DataW.trod_int (k := .i64) Tryz.underlying3 h
  exact ⟨n, e, w64_of hw⟩
theorem trod_ho {cs : List Value} (hl : cs.length = 4) (h : DataW.trod enc Tryz.prog W base spare held fuel 46 cs = some x) : ∃ a b c d, cs = [.int .i64 a, .int .i64 b, .int .i64 c, .int .i64 d] := by
  obtain ⟨xs, m, _, _, _, hlen, hg⟩ := DataW.trod_array Tryz.underlying46 h
  match cs, hl, xs, hlen with
  | [c0, c1, c2, c3], _, [y0, y1, y2, y3], _ =>
    have g0 := hg 0 (by omega)
    have g1 := hg 1 (by omega)
    have g2 := hg 2 (by omega)
    have g3 := hg 3 (by omega)
    simp [cells3] at g0 g1 g2 g3
    obtain ⟨n0, e0, _⟩ := trod_one g0
    obtain ⟨n1, e1, _⟩ := trod_one g1
    obtain ⟨n2, e2, _⟩ := trod_one g2
    obtain ⟨n3, e3, _⟩ := trod_one g3
    cases e0; cases e1; cases e2; cases e3
    exact ⟨n0, n1, n2, n3, rfl⟩
theorem trod_bt {cs : List Value} (hl : cs.length = 7) (h : DataW.trod enc Tryz.prog W base spare held fuel 48 cs = some x) : ∃ t : Pl.Bt, cs = (btA t).toList := by
  match cs, hl with
  | [c0, c1, c2, c3, c4, c5, c6], _ =>
    obtain ⟨xs, n, _, _, _, hlen, hg⟩ := DataW.trod_struct Tryz.underlying48 h
    match xs, hlen with
    | [y0, y1, y2, y3], _ =>
      have g0 := hg 0 _ rfl
      have g1 := hg 1 _ rfl
      have g2 := hg 2 _ rfl
      have g3 := hg 3 _ rfl
      simp [cells3, cells23] at g0 g1 g2 g3
      obtain ⟨k0, e0, _⟩ := trod_one g0
      obtain ⟨k1, e1, _⟩ := trod_one g1
      obtain ⟨k2, e2, _⟩ := trod_one g2
      obtain ⟨a, b, c, d, e3⟩ := trod_ho rfl g3
      cases e0; cases e1; cases e2; cases e3
      exact ⟨⟨k0, k1, k2, a, b, c, d⟩, rfl⟩
theorem trod_rn {cs : List Value} (hl : cs.length = 4) (h : DataW.trod enc Tryz.prog W base spare held fuel 60 cs = some x) : ∃ t : Pl.Rn, cs = rnL t ∧ Pl.Rw t := by
  match cs, hl with
  | [c0, c1, c2, c3], _ =>
    obtain ⟨xs, n, _, _, _, hlen, hg⟩ := DataW.trod_struct Tryz.underlying60 h
    match xs, hlen with
    | [y0, y1, y2, y3], _ =>
      have g0 := hg 0 _ rfl
      have g1 := hg 1 _ rfl
      have g2 := hg 2 _ rfl
      have g3 := hg 3 _ rfl
      simp [cells3, cells4] at g0 g1 g2 g3
      obtain ⟨k0, e0, w0⟩ := trod_one g0
      obtain ⟨k1, e1, w1⟩ := trod_one g1
      obtain ⟨k2, e2, w2⟩ := trod_one g2
      obtain ⟨b, e3, _⟩ := DataW.trod_bool Tryz.underlying4 g3
      cases e0; cases e1; cases e2; cases e3
      exact ⟨⟨k0, k1, k2, b⟩, rfl, w0, w1, w2⟩
end
theorem okWide_agg {W : World} {base : Nat} {v : Value} {e : TypeId} {n : Nat} {t : TypeId} (ht : Tryz.prog.underlying t = some (.array n e)) (h : Value.okWide Tryz.prog W .any base t v) : ∃ cs, v = .agg cs := by
  simp only [Value.okWide, ht] at h
  obtain ⟨cs, h1, _⟩ := h
  exact ⟨cs, h1⟩
section
variable {H : Type} {enc : TypeId × Value → H} {W : World} {base : Nat} {v : Value} {d : DataW H} {p : List MemPlace}
theorem open_bt (hv : Value.okWide Tryz.prog W .any base 48 v) (h : DataW.Trod enc Tryz.prog W 0 (fun _ => true) true 48 v d p) : ∃ t : Pl.Bt, v = .agg (btA t) := by
  obtain ⟨⟨l⟩, rfl, hsz⟩ := okWide_struct Tryz.underlying48 hv
  obtain ⟨fuel, hf⟩ := h
  obtain ⟨t, e⟩ := trod_bt (by simpa [Value.cells] using hsz.trans cells25) hf
  simp [Value.cells] at e
  exact ⟨t, by rw [e]⟩
theorem open_rn (hv : Value.okWide Tryz.prog W .any base 60 v) (h : DataW.Trod enc Tryz.prog W 0 (fun _ => true) true 60 v d p) : ∃ t : Pl.Rn, v = .agg (rnA t) ∧ Pl.Rw t := by
  obtain ⟨⟨l⟩, rfl, hsz⟩ := okWide_struct Tryz.underlying60 hv
  obtain ⟨fuel, hf⟩ := h
  obtain ⟨t, e, hw⟩ := trod_rn (by simpa [Value.cells] using hsz.trans cellsRn) hf
  simp [Value.cells] at e
  exact ⟨t, by rw [e], hw⟩
end
/-- a slice of elements of k cells that came in -/
theorem open_rows {α : Type} {enc' : α → List Value} {k : Nat} {ok : α → Prop} {H : Type} {enc : TypeId × Value → H} {W : World} {a0 : Option Addr} {len cap : Nat} {x : DataW H × List MemPlace} {t e : TypeId} {fuel : Nat} (ht : Tryz.prog.underlying t = some (.slice e)) (ce : Tryz.prog.cellsOf e = k) (E : Enc enc' k)
    (hop : ∀ (fuel : Nat) (cs : List Value) (x : DataW H × List MemPlace), cs.length = k → DataW.trod enc Tryz.prog W 0 (fun _ => true) true fuel e cs = some x → ∃ y, cs = enc' y ∧ ok y)
    (hf : DataW.trod enc Tryz.prog W 0 (fun _ => true) true fuel t [.slice a0 len cap] = some x) : ∃ l : List α, len = l.length ∧ Rows enc' k W a0 l ∧ len ≤ cap ∧ cap ≤ maxLen ∧ ∀ y, y ∈ l → ok y := by
  rcases open_slice ht hf with ⟨hcs, _⟩ | ⟨a, len', cap', m, n, D, P, hcs, hb, hl, hm, hmm, hx, hc⟩
  · simp at hcs
    obtain ⟨rfl, rfl, rfl⟩ := hcs
    exact ⟨[], rfl, .inl rfl, Nat.le_refl _, by unfold maxLen; omega, by simp⟩
  · simp at hcs
    obtain ⟨rfl, rfl, rfl⟩ := hcs
    have hmm' : m = cap := by simpa using hmm
    rw [ce] at hc
    have each : ∀ i, i < len → ∃ y : α, W.cells? 0 (a.add (i * k)) k = some (enc' y) ∧ ok y := fun i hi => by
      obtain ⟨cs', h1, h2⟩ := hc i (by omega)
      obtain ⟨y, rfl, hy⟩ := hop n cs' _ (World.cells?_some h1).2.1 h2
      exact ⟨y, h1, hy⟩
    by_cases h0 : len = 0
    · subst h0; exact ⟨[], rfl, .inl rfl, hl, hm, by simp⟩
    obtain ⟨y0, _⟩ := each 0 (by omega)
    haveI : Inhabited α := ⟨y0⟩
    obtain ⟨V, hV⟩ := choose_lt (α := α) (p := fun i y => W.cells? 0 (a.add (i * k)) k = some (enc' y) ∧ ok y) each
    refine ⟨(List.range len).map V, by simp, .inr ?_, hl, hm, fun y hy => ?_⟩
    · obtain ⟨b, off, spot⟩ := a
      have hc0 := (World.cells?_some (hV 0 (by omega)).1).2.2 0 E.pos
      rw [List.getElem?_eq_getElem (by rw [E.len]; exact E.pos)] at hc0
      have hspot : spot = none := by
        have := World.cell?_spot hc0
        simpa [Addr.add] using this
      subst hspot
      have hcell : ∀ i, i < len → ∀ j, j < k → W.cell? ⟨b, off + i * k + j, none⟩ = (enc' (V i))[j]? := fun i hi j hj => by
        have h1 := (World.cells?_some (hV i hi).1).2.2 j hj
        rw [Go.WideShapes.add_plain, Go.WideShapes.add_plain] at h1
        exact h1
      refine ⟨b, off, rfl, ?_, fun i hi j v hj => ?_⟩
      · have := World.block_lt_of_cell? W _ hc0
        simpa [Addr.add] using this
      · have hi' : i < len := by simpa using hi
        have hjk : j < k := by
          rcases Nat.lt_or_ge j k with e | e
          · exact e
          · rw [List.getElem?_eq_none (by rw [E.len]; exact e)] at hj; cases hj
        rw [hcell i hi' j hjk]
        simpa using hj
    · obtain ⟨i, hi, rfl⟩ := List.mem_map.1 hy
      exact (hV i (List.mem_range.1 hi)).2
/-- a slice of slices that came in -/
theorem open_rr {α : Type} {enc' : α → List Value} {k : Nat} {ok : α → Prop} {H : Type} {enc : TypeId × Value → H} {W : World} {a0 : Option Addr} {len cap : Nat} {x : DataW H × List MemPlace} {t e q : TypeId} {fuel : Nat} (ht : Tryz.prog.underlying t = some (.slice e)) (he : Tryz.prog.underlying e = some (.slice q)) (ce : Tryz.prog.cellsOf e = 1) (cq : Tryz.prog.cellsOf q = k) (E : Enc enc' k)
    (hop : ∀ (fuel : Nat) (cs : List Value) (x : DataW H × List MemPlace), cs.length = k → DataW.trod enc Tryz.prog W 0 (fun _ => true) true fuel q cs = some x → ∃ y, cs = enc' y ∧ ok y)
    (hf : DataW.trod enc Tryz.prog W 0 (fun _ => true) true fuel t [.slice a0 len cap] = some x) : ∃ l : List (List α), len = l.length ∧ RR enc' k W a0 l ∧ len ≤ cap ∧ cap ≤ maxLen ∧ ∀ r, r ∈ l → ∀ y, y ∈ r → ok y := by
  rcases open_slice ht hf with ⟨hcs, _⟩ | ⟨a, len', cap', m, n, D, P, hcs, hb, hl, hm, hmm, hx, hc⟩
  · simp at hcs
    obtain ⟨rfl, rfl, rfl⟩ := hcs
    exact ⟨[], rfl, .inl rfl, Nat.le_refl _, by unfold maxLen; omega, by simp⟩
  · simp at hcs
    obtain ⟨rfl, rfl, rfl⟩ := hcs
    have hmm' : m = cap := by simpa using hmm
    rw [ce] at hc
    have each : ∀ i, i < len → ∃ y : List α, ∃ A c, W.cell? (a.add i) = some (.slice A y.length c) ∧ Rows enc' k W A y ∧ y.length ≤ c ∧ c ≤ maxLen ∧ ∀ z, z ∈ y → ok z := fun i hi => by
      obtain ⟨cs', h1, h2⟩ := hc i (by omega)
      rw [Nat.mul_one] at h1
      have hl1 := (World.cells?_some h1).2.1
      match cs', hl1 with
      | [c0], _ =>
        have h3 := (World.cells?_some h1).2.2 0 (by omega)
        rw [show (a.add i).add 0 = a.add i from by simp [Addr.add]] at h3
        have h2' := h2
        rcases open_slice he h2 with ⟨hcs, _⟩ | ⟨a', len', cap', m', n', D', P', hcs, _⟩
        · simp at hcs
          subst hcs
          obtain ⟨y, e1, e2, e3, e4, e5⟩ := open_rows he cq E hop h2'
          exact ⟨y, none, 0, by rw [← e1]; exact h3, e2, by omega, e4, e5⟩
        · simp at hcs
          subst hcs
          obtain ⟨y, e1, e2, e3, e4, e5⟩ := open_rows he cq E hop h2'
          exact ⟨y, _, _, by rw [← e1]; exact h3, e2, by omega, e4, e5⟩
    by_cases h0 : len = 0
    · subst h0; exact ⟨[], rfl, .inl rfl, hl, hm, by simp⟩
    obtain ⟨V, hV⟩ := choose_lt (α := List α) (p := fun i y => ∃ A c, W.cell? (a.add i) = some (.slice A y.length c) ∧ Rows enc' k W A y ∧ y.length ≤ c ∧ c ≤ maxLen ∧ ∀ z, z ∈ y → ok z) each
    refine ⟨(List.range len).map V, by simp, .inr ?_, hl, hm, fun y hy => ?_⟩
    · obtain ⟨b, off, spot⟩ := a
      obtain ⟨A0, c0, hc0, _⟩ := hV 0 (by omega)
      have hspot : spot = none := by
        have := World.cell?_spot hc0
        simpa [Addr.add] using this
      subst hspot
      refine ⟨b, off, rfl, ?_, fun j hj => ?_⟩
      · have := World.block_lt_of_cell? W _ hc0
        simpa [Addr.add] using this
      · have hj' : j < len := by simpa using hj
        obtain ⟨A', c', h1, h2, h3, h4, _⟩ := hV j hj'
        have hg : ((List.range len).map V).getD j [] = V j := by
          rw [List.getD_eq_getElem?_getD, List.getElem?_map, List.getElem?_range hj']; rfl
        rw [hg]
        rw [Go.WideShapes.add_plain] at h1
        exact ⟨A', c', h1, h2, h3, h4⟩
    · obtain ⟨i, hi, rfl⟩ := List.mem_map.1 hy
      obtain ⟨A', c', h1, h2, h3, h4, h5⟩ := hV i (List.mem_range.1 hi)
      exact h5
theorem bts_rows {W : World} {A : Option Addr} {l : List Pl.Bt} (h : Rows (fun t : Pl.Bt => (btA t).toList) 7 W A l) : Bts W A l := by
  rcases h with h | ⟨b, off, h1, h2, h3⟩
  · exact .inl h
  · refine .inr ⟨b, off, h1, h2, fun k hk => ?_⟩
    rw [List.getD_eq_getElem?_getD, List.getElem?_eq_getElem hk]
    exact h3 k hk
section
variable {H : Type} {enc : TypeId × Value → H} {W : World} {a0 : Option Addr} {len cap : Nat} {d : DataW H} {p : List MemPlace}
theorem open_bts (h : DataW.Trod enc Tryz.prog W 0 (fun _ => true) true 22 (.slice a0 len cap) d p) : ∃ l : List Pl.Bt, len = l.length ∧ Bts W a0 l ∧ len ≤ cap ∧ cap ≤ maxLen := by
  obtain ⟨fuel, hf⟩ := h
  obtain ⟨l, h1, h2, h3, h4, _⟩ := open_rows (ok := fun _ => True) Tryz.underlying22 cells25 encBt (fun fuel cs x hl hx => by obtain ⟨t, e⟩ := trod_bt hl hx; exact ⟨t, e, trivial⟩) (by simpa [Value.cells] using hf)
  exact ⟨l, h1, bts_rows h2, h3, h4⟩
theorem open_ins (h : DataW.Trod enc Tryz.prog W 0 (fun _ => true) true 32 (.slice a0 len cap) d p) : ∃ l : List Int, len = l.length ∧ Rows inL 1 W a0 l ∧ len ≤ cap ∧ cap ≤ maxLen := by
  obtain ⟨fuel, hf⟩ := h
  obtain ⟨l, h1, h2, h3, h4, _⟩ := open_rows (ok := Pl.W64) Tryz.underlying32 cells3 encIn (fun fuel cs x hl hx => trod_one hx) (by simpa [Value.cells] using hf)
  exact ⟨l, h1, h2, h3, h4⟩
theorem open_iis (h : DataW.Trod enc Tryz.prog W 0 (fun _ => true) true 29 (.slice a0 len cap) d p) : ∃ l : List (List Int), len = l.length ∧ RR inL 1 W a0 l ∧ len ≤ cap ∧ cap ≤ maxLen := by
  obtain ⟨fuel, hf⟩ := h
  obtain ⟨l, h1, h2, h3, h4, _⟩ := open_rr (ok := Pl.W64) Tryz.underlying29 Tryz.underlying32 cells42 cells3 encIn (fun fuel cs x hl hx => trod_one hx) (by simpa [Value.cells] using hf)
  exact ⟨l, h1, h2, h3, h4⟩
theorem open_rrs (h : DataW.Trod enc Tryz.prog W 0 (fun _ => true) true 38 (.slice a0 len cap) d p) : ∃ l : List (List Pl.Rn), len = l.length ∧ RR rnL 4 W a0 l ∧ len ≤ cap ∧ cap ≤ maxLen ∧ ∀ r, r ∈ l → ∀ y, y ∈ r → Pl.Rw y := by
  obtain ⟨fuel, hf⟩ := h
  exact open_rr (ok := Pl.Rw) Tryz.underlying38 Tryz.underlying63 cells89 cellsRn encRn (fun fuel cs x hl hx => trod_rn hl hx) (by simpa [Value.cells] using hf)
end
end Go.Proofs.YtlfbfdhdkccaeaaGreat

