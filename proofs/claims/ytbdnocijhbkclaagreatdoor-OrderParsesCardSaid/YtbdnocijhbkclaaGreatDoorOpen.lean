/- Arguments as they came in: numbers, strings, lists of numbers, prices, rates and lines, markets, forms and questions. -/
import Derived.Test.YtbdnocijhbkclaaGreatDoorRows
import Derived.Test.YtbdnocijhbkclaaGreatDoorF2
import Derived.ChangeSlices
import Derived.ChangeMaps5
import Derived.ProofKit
import Derived.OpenShut
import Derived.Deep.SlicePairs
import Derived.Lib.SmallJoins
import Derived.Below
namespace Go.Proofs.YtbdnocijhbkclaaGreatDoor
open Go.ChangeShapes Go.WideShapes Go.ChangeAt Go.RowKit Go.Deep Go.Joins
set_option maxRecDepth 100000
set_option linter.unusedVariables false

theorem own : ownKnob Tryz.prog.godebug = none := by kernel_rfl
theorem laidOut : laidOutB Tryz.prog = true := by kernel_rfl
theorem cells3 : Tryz.prog.cellsOf 3 = 1 := by kernel_rfl
theorem cells4 : Tryz.prog.cellsOf 4 = 1 := by kernel_rfl
theorem cells5s : Tryz.prog.cellsOf 9 = 1 := by kernel_rfl
theorem cellsSt : Tryz.prog.cellsOf 187 = 2 := by kernel_rfl
theorem cellsPr : Tryz.prog.cellsOf 41 = 3 := by kernel_rfl
theorem cellsRt : Tryz.prog.cellsOf 43 = 4 := by kernel_rfl
theorem cellsLn : Tryz.prog.cellsOf 45 = 4 := by kernel_rfl
theorem cellsFm : Tryz.prog.cellsOf 24 = 4 := by kernel_rfl
theorem cellsMk : Tryz.prog.cellsOf 29 = 2 := by kernel_rfl
theorem cells1p : Tryz.prog.cellsOf 26 = 1 := by kernel_rfl
theorem cells1r : Tryz.prog.cellsOf 27 = 1 := by kernel_rfl
theorem cells1l : Tryz.prog.cellsOf 22 = 1 := by kernel_rfl
theorem cells1s : Tryz.prog.cellsOf 39 = 1 := by kernel_rfl

theorem u8_nat {x : Int} (h : (Lit.int .u8 x).wf = true) : ∃ n : Nat, n ≤ 255 ∧ x = n := by
  simp [Lit.wf, IntKind.min, IntKind.max, IntKind.signed, IntKind.bits] at h
  exact ⟨x.toNat, by omega, by omega⟩
theorem okWide_agg {W : World} {base : Nat} {v : Value} {e : TypeId} {n : Nat} {t : TypeId} (ht : Tryz.prog.underlying t = some (.array n e)) (h : Value.okWide Tryz.prog W .any base t v) : ∃ cs, v = .agg cs := by
  simp only [Value.okWide, ht] at h
  obtain ⟨cs, h1, _⟩ := h
  exact ⟨cs, h1⟩

section
variable {H : Type} {enc : TypeId × Value → H} {W : World} {base : Nat} {held : Bool} {fuel : Nat} {x : DataW H × List MemPlace}
theorem trod_one {cs : List Value} (h : DataW.trod enc Tryz.prog W 0 (fun _ => true) held fuel 3 cs = some x) : ∃ n, cs = [.int .i64 n] ∧ (Lit.int .i64 n).wf = true := by
  obtain ⟨n, e, _, hw⟩ := DataW.trod_int (k := .i64) Tryz.underlying3 h
  exact ⟨n, e, hw⟩
theorem trod_str {cs : List Value} (h : DataW.trod enc Tryz.prog W 0 (fun _ => true) held fuel 9 cs = some x) : ∃ s : ByteArray, cs = [.string s] ∧ s.size ≤ maxLen := by
  obtain ⟨s, e, _, hs⟩ := DataW.trod_string Tryz.underlying9 h
  exact ⟨s, e, hs⟩
theorem trod_st {cs : List Value} (hl : cs.length = 2) (h : DataW.trod enc Tryz.prog W 0 (fun _ => true) held fuel 187 cs = some x) : ∃ t : Pl.Stp, cs = stL t ∧ True := by
  match cs, hl with
  | [c0, c1], _ =>
    obtain ⟨xs, n, _, _, _, hlen, hg⟩ := DataW.trod_struct Tryz.underlying187 h
    match xs, hlen with
    | [y0, y1], _ =>
      have g0 := hg 0 _ rfl
      have g1 := hg 1 _ rfl
      simp [cells3] at g0 g1
      obtain ⟨k0, e0, _⟩ := trod_one g0
      obtain ⟨k1, e1, _⟩ := trod_one g1
      cases e0; cases e1
      exact ⟨⟨k0, k1⟩, rfl, trivial⟩
theorem trod_rt {cs : List Value} (hl : cs.length = 4) (h : DataW.trod enc Tryz.prog W 0 (fun _ => true) held fuel 43 cs = some x) : ∃ t : Pl.Rt, cs = rtL t ∧ t.cur.size ≤ maxLen := by
  match cs, hl with
  | [c0, c1, c2, c3], _ =>
    obtain ⟨xs, n, _, _, _, hlen, hg⟩ := DataW.trod_struct Tryz.underlying43 h
    match xs, hlen with
    | [y0, y1, y2, y3], _ =>
      have g0 := hg 0 _ rfl
      have g1 := hg 1 _ rfl
      have g2 := hg 2 _ rfl
      have g3 := hg 3 _ rfl
      simp [cells3, cells5s] at g0 g1 g2 g3
      obtain ⟨k0, e0, hs⟩ := trod_str g0
      obtain ⟨k1, e1, _⟩ := trod_one g1
      obtain ⟨k2, e2, _⟩ := trod_one g2
      obtain ⟨k3, e3, _⟩ := trod_one g3
      cases e0; cases e1; cases e2; cases e3
      exact ⟨⟨k0, k1, k2, k3⟩, rfl, hs⟩
theorem trod_ln {cs : List Value} (hl : cs.length = 4) (h : DataW.trod enc Tryz.prog W 0 (fun _ => true) held fuel 45 cs = some x) : ∃ t : Pl.Ln, cs = lnL t ∧ t.md.size ≤ maxLen := by
  match cs, hl with
  | [c0, c1, c2, c3], _ =>
    obtain ⟨xs, n, _, _, _, hlen, hg⟩ := DataW.trod_struct Tryz.underlying45 h
    match xs, hlen with
    | [y0, y1, y2, y3], _ =>
      have g0 := hg 0 _ rfl
      have g1 := hg 1 _ rfl
      have g2 := hg 2 _ rfl
      have g3 := hg 3 _ rfl
      simp [cells3, cells5s] at g0 g1 g2 g3
      obtain ⟨k0, e0, hs⟩ := trod_str g0
      obtain ⟨k1, e1, _⟩ := trod_one g1
      obtain ⟨k2, e2, _⟩ := trod_one g2
      obtain ⟨k3, e3, _⟩ := trod_one g3
      cases e0; cases e1; cases e2; cases e3
      exact ⟨⟨k0, k1, k2, k3⟩, rfl, hs⟩
end
/-- a slice of elements of k cells that came in -/
theorem open_rows {α : Type} {enc' : α → List Value} {k : Nat} {ok : α → Prop} {H : Type} {enc : TypeId × Value → H} {W : World} {a0 : Option Addr} {len cap : Nat} {x : DataW H × List MemPlace} {t e : TypeId} {fuel : Nat} (ht : Tryz.prog.underlying t = some (.slice e)) (ce : Tryz.prog.cellsOf e = k) (E : Enc enc' k)
    (hop : ∀ (fuel : Nat) (cs : List Value) (x : DataW H × List MemPlace), cs.length = k → DataW.trod enc Tryz.prog W 0 (fun _ => true) true fuel e cs = some x → ∃ y, cs = enc' y ∧ ok y)
    (hf : DataW.trod enc Tryz.prog W 0 (fun _ => true) true fuel t [.slice a0 len cap] = some x) : ∃ l : List α, len = l.length ∧ Rows enc' k W a0 l ∧ len ≤ cap ∧ cap ≤ maxLen ∧ ∀ y, y ∈ l → ok y := by
  rcases open_slice ht hf with ⟨hcs, _⟩ | ⟨a, len', cap', m, n, D, P, hcs, hb, hl, hm, hmm, hx, hc⟩
  · simp at hcs
    obtain ⟨rfl, rfl, rfl⟩ := hcs
    exact ⟨[], rfl, .inl rfl, Nat.le_refl _, by unfold maxLen; omega, by simp⟩
  · simp at hcs
    obtain ⟨rfl, rfl, rfl⟩ := hcs
    have hmm' : m = cap := by simpa using hmm
    rw [ce] at hc
    have each : ∀ i, i < len → ∃ y : α, W.cells? 0 (a.add (i * k)) k = some (enc' y) ∧ ok y := fun i hi => by
      obtain ⟨cs', h1, h2⟩ := hc i (by omega)
      obtain ⟨y, rfl, hy⟩ := hop n cs' _ (World.cells?_some h1).2.1 h2
      exact ⟨y, h1, hy⟩
    by_cases h0 : len = 0
    · subst h0; exact ⟨[], rfl, .inl rfl, hl, hm, by simp⟩
    obtain ⟨y0, _⟩ := each 0 (by omega)
    haveI : Inhabited α := ⟨y0⟩
    obtain ⟨V, hV⟩ := choose_lt (α := α) (p := fun i y => W.cells? 0 (a.add (i * k)) k = some (enc' y) ∧ ok y) each
    refine ⟨(List.range len).map V, by simp, .inr ?_, hl, hm, fun y hy => ?_⟩
    · obtain ⟨b, off, spot⟩ := a
      have hc0 := (World.cells?_some (hV 0 (by omega)).1).2.2 0 E.pos
      rw [List.getElem?_eq_getElem (by rw [E.len]; exact E.pos)] at hc0
      have hspot : spot = none := by
        have := World.cell?_spot hc0
        simpa [Addr.add] using this
      subst hspot
      have hcell : ∀ i, i < len → ∀ j, j < k → W.cell? ⟨b, off + i * k + j, none⟩ = (enc' (V i))[j]? := fun i hi j hj => by
        have h1 := (World.cells?_some (hV i hi).1).2.2 j hj
        rw [Go.WideShapes.add_plain, Go.WideShapes.add_plain] at h1
        exact h1
      refine ⟨b, off, rfl, ?_, fun i hi j v hj => ?_⟩
      · have := World.block_lt_of_cell? W _ hc0
        simpa [Addr.add] using this
      · have hi' : i < len := by simpa using hi
        have hjk : j < k := by
          rcases Nat.lt_or_ge j k with e | e
          · exact e
          · rw [List.getElem?_eq_none (by rw [E.len]; exact e)] at hj; cases hj
        rw [hcell i hi' j hjk]
        simpa using hj
    · obtain ⟨i, hi, rfl⟩ := List.mem_map.1 hy
      exact (hV i (List.mem_range.1 hi)).2

/-- a cell that holds a slice -/
theorem open_cell {α : Type} {enc' : α → List Value} {k : Nat} {ok : α → Prop} {H : Type} {enc : TypeId × Value → H} {W : World} {c : Value} {x : DataW H × List MemPlace} {t e : TypeId} {fuel : Nat} (ht : Tryz.prog.underlying t = some (.slice e)) (ce : Tryz.prog.cellsOf e = k) (E : Enc enc' k)
    (hop : ∀ (fuel : Nat) (cs : List Value) (x : DataW H × List MemPlace), cs.length = k → DataW.trod enc Tryz.prog W 0 (fun _ => true) true fuel e cs = some x → ∃ y, cs = enc' y ∧ ok y)
    (hf : DataW.trod enc Tryz.prog W 0 (fun _ => true) true fuel t [c] = some x) : ∃ (l : List α) (a0 : Option Addr) (cap : Nat), c = .slice a0 l.length cap ∧ Rows enc' k W a0 l ∧ l.length ≤ cap ∧ cap ≤ maxLen ∧ ∀ y, y ∈ l → ok y := by
  have hf' := hf
  rcases open_slice ht hf with ⟨hcs, _⟩ | ⟨a', len', cap', m', n', D', P', hcs, _⟩
  · simp at hcs
    subst hcs
    obtain ⟨y, e1, e2, e3, e4, e5⟩ := open_rows ht ce E hop hf'
    exact ⟨y, none, 0, by rw [← e1], e2, by omega, e4, e5⟩
  · simp at hcs
    subst hcs
    obtain ⟨y, e1, e2, e3, e4, e5⟩ := open_rows ht ce E hop hf'
    exact ⟨y, _, _, by rw [← e1], e2, by omega, e4, e5⟩
/-- what a price that came in is like -/
def PrIn (W : World) (p : Pl.Pr) : Prop := Rows stL 2 W p.a p.st ∧ p.st.length ≤ p.k ∧ p.k ≤ maxLen ∧ p.md.size ≤ maxLen
section
variable {H : Type} {enc : TypeId × Value → H} {W : World} {fuel : Nat} {x : DataW H × List MemPlace}
theorem trod_pr {cs : List Value} (hl : cs.length = 3) (h : DataW.trod enc Tryz.prog W 0 (fun _ => true) true fuel 41 cs = some x) : ∃ t : Pl.Pr, cs = prL t ∧ PrIn W t := by
  match cs, hl with
  | [c0, c1, c2], _ =>
    obtain ⟨xs, n, _, _, _, hlen, hg⟩ := DataW.trod_struct Tryz.underlying41 h
    match xs, hlen with
    | [y0, y1, y2], _ =>
      have g0 := hg 0 _ rfl
      have g1 := hg 1 _ rfl
      have g2 := hg 2 _ rfl
      simp [cells3, cells5s, cells1s] at g0 g1 g2
      obtain ⟨k0, e0, hs⟩ := trod_str g0
      obtain ⟨k1, e1, _⟩ := trod_one g1
      obtain ⟨l, a0, cap, rfl, h1, h2, h3, _⟩ := open_cell (ok := fun _ => True) Tryz.underlying39 cellsSt encSt (fun fuel cs x hl hx => trod_st hl hx) g2
      cases e0; cases e1
      exact ⟨⟨k0, k1, l, a0, cap⟩, rfl, h1, h2, h3, hs⟩
theorem trod_prs {c : Value} (h : DataW.trod enc Tryz.prog W 0 (fun _ => true) true fuel 26 [c] = some x) : ∃ (l : List Pl.Pr) (a0 : Option Addr) (cap : Nat), c = .slice a0 l.length cap ∧ Rows prL 3 W a0 l ∧ l.length ≤ cap ∧ cap ≤ maxLen ∧ ∀ y, y ∈ l → PrIn W y :=
  open_cell (ok := PrIn W) Tryz.underlying26 cellsPr encPr (fun fuel cs x hl hx => trod_pr hl hx) h
theorem trod_rts {c : Value} (h : DataW.trod enc Tryz.prog W 0 (fun _ => true) true fuel 27 [c] = some x) : ∃ (l : List Pl.Rt) (a0 : Option Addr) (cap : Nat), c = .slice a0 l.length cap ∧ Rows rtL 4 W a0 l ∧ l.length ≤ cap ∧ cap ≤ maxLen ∧ ∀ y, y ∈ l → y.cur.size ≤ maxLen :=
  open_cell (ok := fun y => y.cur.size ≤ maxLen) Tryz.underlying27 cellsRt encRt (fun fuel cs x hl hx => trod_rt hl hx) h
theorem trod_lns {c : Value} (h : DataW.trod enc Tryz.prog W 0 (fun _ => true) true fuel 22 [c] = some x) : ∃ (l : List Pl.Ln) (a0 : Option Addr) (cap : Nat), c = .slice a0 l.length cap ∧ Rows lnL 4 W a0 l ∧ l.length ≤ cap ∧ cap ≤ maxLen ∧ ∀ y, y ∈ l → y.md.size ≤ maxLen :=
  open_cell (ok := fun y => y.md.size ≤ maxLen) Tryz.underlying22 cellsLn encLn (fun fuel cs x hl hx => trod_ln hl hx) h
end
/-- prices, rates and lines that came in -/
structure PrsIn (W : World) (A : Option Addr) (l : List Pl.Pr) (k : Nat) : Prop where
  rows : Rows prL 3 W A l
  cap : l.length ≤ k
  top : k ≤ maxLen
  each : ∀ y, y ∈ l → PrIn W y
structure RtsIn (W : World) (A : Option Addr) (l : List Pl.Rt) (k : Nat) : Prop where
  rows : Rows rtL 4 W A l
  cap : l.length ≤ k
  top : k ≤ maxLen
  each : ∀ y, y ∈ l → y.cur.size ≤ maxLen
structure FmIn (W : World) (f : Pl.Fm) : Prop where
  rows : Rows lnL 4 W f.a f.ls
  cap : f.ls.length ≤ f.k
  top : f.k ≤ maxLen
  each : ∀ y, y ∈ f.ls → y.md.size ≤ maxLen
  cus : f.cus.size ≤ maxLen
  cur : f.cur.size ≤ maxLen
section
variable {H : Type} {enc : TypeId × Value → H} {W : World} {base : Nat} {v : Value} {d : DataW H} {p : List MemPlace}
theorem open_ins {a0 : Option Addr} {len cap : Nat} (h : DataW.Trod enc Tryz.prog W 0 (fun _ => true) true 46 (.slice a0 len cap) d p) : ∃ l : List Int, len = l.length ∧ Rows inL 1 W a0 l ∧ len ≤ cap ∧ cap ≤ maxLen := by
  obtain ⟨fuel, hf⟩ := h
  obtain ⟨l, h1, h2, h3, h4, _⟩ := open_rows (ok := fun x => (Lit.int .i64 x).wf = true) Tryz.underlying46 cells3 encIn (fun fuel cs x hl hx => trod_one hx) (by simpa [Value.cells] using hf)
  exact ⟨l, h1, h2, h3, h4⟩
theorem open_mk (hv : Value.okWide Tryz.prog W .any base 29 v) (h : DataW.Trod enc Tryz.prog W 0 (fun _ => true) true 29 v d p) :
    ∃ A l k B r j, v = .agg #[.slice A (List.length l) k, .slice B (List.length r) j] ∧ PrsIn W A l k ∧ RtsIn W B r j := by
  obtain ⟨⟨l⟩, rfl, hsz⟩ := okWide_struct Tryz.underlying29 hv
  obtain ⟨fuel, hf⟩ := h
  obtain ⟨xs, n, _, _, _, hlen, hg⟩ := DataW.trod_struct Tryz.underlying29 hf
  have hl : l.length = 2 := by simpa [Value.cells] using hsz.trans cellsMk
  match l, hl, xs, hlen with
  | [c0, c1], _, [y0, y1], _ =>
    have g0 := hg 0 _ rfl
    have g1 := hg 1 _ rfl
    simp [cells1p, cells1r, Value.cells] at g0 g1
    obtain ⟨l, a0, cap, rfl, h1, h2, h3, h4⟩ := trod_prs g0
    obtain ⟨r, b0, cap', rfl, k1, k2, k3, k4⟩ := trod_rts g1
    exact ⟨a0, l, cap, b0, r, cap', rfl, ⟨h1, h2, h3, h4⟩, ⟨k1, k2, k3, k4⟩⟩
theorem open_fm (hv : Value.okWide Tryz.prog W .any base 24 v) (h : DataW.Trod enc Tryz.prog W 0 (fun _ => true) true 24 v d p) :
    ∃ f : Pl.Fm, v = .agg (fmA f) ∧ FmIn W f := by
  obtain ⟨⟨l⟩, rfl, hsz⟩ := okWide_struct Tryz.underlying24 hv
  obtain ⟨fuel, hf⟩ := h
  obtain ⟨xs, n, _, _, _, hlen, hg⟩ := DataW.trod_struct Tryz.underlying24 hf
  have hl : l.length = 4 := by simpa [Value.cells] using hsz.trans cellsFm
  match l, hl, xs, hlen with
  | [c0, c1, c2, c3], _, [y0, y1, y2, y3], _ =>
    have g0 := hg 0 _ rfl
    have g1 := hg 1 _ rfl
    have g2 := hg 2 _ rfl
    have g3 := hg 3 _ rfl
    simp [cells3, cells5s, cells1l, Value.cells] at g0 g1 g2 g3
    obtain ⟨s0, e0, z0⟩ := trod_str g0
    obtain ⟨n1, e1, _⟩ := trod_one g1
    obtain ⟨s2, e2, z2⟩ := trod_str g2
    obtain ⟨r, b0, cap', rfl, k1, k2, k3, k4⟩ := trod_lns g3
    cases e0; cases e1; cases e2
    exact ⟨⟨s0, n1, s2, r, b0, cap'⟩, rfl, k1, k2, k3, k4, z0, z2⟩
theorem open_price (hv : Value.okWide Tryz.prog W .any base 41 v) (h : DataW.Trod enc Tryz.prog W 0 (fun _ => true) true 41 v d p) : ∃ t : Pl.Pr, v = .agg (prA t) ∧ PrIn W t := by
  obtain ⟨⟨l⟩, rfl, hsz⟩ := okWide_struct Tryz.underlying41 hv
  obtain ⟨fuel, hf⟩ := h
  obtain ⟨t, e, hw⟩ := trod_pr (by simpa [Value.cells] using hsz.trans cellsPr) hf
  simp [Value.cells] at e
  exact ⟨t, by rw [e], hw⟩
end
end Go.Proofs.YtbdnocijhbkclaaGreatDoor
