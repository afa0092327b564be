/- Arguments as they came in: numbers, lists of entries, entries, bytes. -/
import Derived.Test.YtalfffkcmddakabRows
import Derived.Test.YtalfffkcmddakabF2
import Derived.Test.YtalfffkcmddakabY1
import Derived.ChangeSlices
import Derived.ChangeMaps5
import Derived.ProofKit
import Derived.OpenShut
import Derived.Deep.SlicePairs
import Derived.Lib.SmallJoins
import Derived.Below
namespace Go.Proofs.Ytalfffkcmddakab
open Go.ChangeShapes Go.WideShapes Go.ChangeAt Go.RowKit Go.Deep Go.Joins
set_option maxRecDepth 100000
set_option linter.unusedVariables false

theorem own : ownKnob Try.prog.godebug = none := by kernel_rfl
theorem laidOut : laidOutB Try.prog = true := by kernel_rfl
theorem cells3 : Try.prog.cellsOf 3 = 1 := by kernel_rfl
theorem cells4 : Try.prog.cellsOf 4 = 1 := by kernel_rfl
theorem cells5 : Try.prog.cellsOf 5 = 1 := by kernel_rfl
theorem cellsEn : Try.prog.cellsOf 72 = 4 := by kernel_rfl

theorem u8_nat {x : Int} (h : (Lit.int .u8 x).wf = true) : ∃ n : Nat, n ≤ 255 ∧ x = n := by
  simp [Lit.wf, IntKind.min, IntKind.max, IntKind.signed, IntKind.bits] at h
  exact ⟨x.toNat, by omega, by omega⟩

section
variable {H : Type} {enc : TypeId × Value → H} {W : World} {base : Nat} {held : Bool} {fuel : Nat} {x : DataW H × List MemPlace}
theorem trod_one {cs : List Value} (h : DataW.trod enc Try.prog W 0 (fun _ => true) held fuel 3 cs = some x) : ∃ n, cs = [.int .i64 n] ∧ (Lit.int .i64 n).wf = true := by
  obtain ⟨n, e, _, hw⟩ := DataW.trod_int (k := .i64) Try.underlying3 h
  exact ⟨n, e, hw⟩
theorem trod_by {cs : List Value} (h : DataW.trod enc Try.prog W 0 (fun _ => true) held fuel 5 cs = some x) : ∃ n : UInt8, cs = u8L n ∧ True := by
  obtain ⟨n, e, _, hw⟩ := DataW.trod_int (k := .u8) Try.underlying5 h
  obtain ⟨m, hm, rfl⟩ := u8_nat hw
  refine ⟨UInt8.ofNat m, ?_, trivial⟩
  rw [e]
  simp [u8L, UInt8.toNat_ofNat', Nat.mod_eq_of_lt (show m < 256 by omega)]
theorem trod_bo {cs : List Value} (h : DataW.trod enc Try.prog W 0 (fun _ => true) held fuel 4 cs = some x) : ∃ n : Bool, cs = boL n ∧ True := by
  obtain ⟨n, e, _⟩ := DataW.trod_bool Try.underlying4 h
  exact ⟨n, e, trivial⟩
theorem trod_en {cs : List Value} (hl : cs.length = 4) (h : DataW.trod enc Try.prog W 0 (fun _ => true) held fuel 72 cs = some x) : ∃ t : Pl.En, cs = enL t ∧ True := by
  match cs, hl with
  | [c0, c1, c2, c3], _ =>
    obtain ⟨xs, n, _, _, _, hlen, hg⟩ := DataW.trod_struct Try.underlying72 h
    match xs, hlen with
    | [y0, y1, y2, y3], _ =>
      have g0 := hg 0 _ rfl
      have g1 := hg 1 _ rfl
      have g2 := hg 2 _ rfl
      have g3 := hg 3 _ rfl
      simp [cells3] at g0 g1 g2 g3
      obtain ⟨k0, e0, _⟩ := trod_one g0
      obtain ⟨k1, e1, _⟩ := trod_one g1
      obtain ⟨k2, e2, _⟩ := trod_one g2
      obtain ⟨k3, e3, _⟩ := trod_one g3
      cases e0; cases e1; cases e2; cases e3
      exact ⟨⟨k0, k1, k2, k3⟩, rfl, trivial⟩
end
/-- a slice of elements of k cells that came in -/
theorem open_rows {α : Type} {enc' : α → List Value} {k : Nat} {ok : α → Prop} {H : Type} {enc : TypeId × Value → H} {W : World} {a0 : Option Addr} {len cap : Nat} {x : DataW H × List MemPlace} {t e : TypeId} {fuel : Nat} (ht : Try.prog.underlying t = some (.slice e)) (ce : Try.prog.cellsOf e = k) (E : Enc enc' k)
    (hop : ∀ (fuel : Nat) (cs : List Value) (x : DataW H × List MemPlace), cs.length = k → DataW.trod enc Try.prog W 0 (fun _ => true) true fuel e cs = some x → ∃ y, cs = enc' y ∧ ok y)
    (hf : DataW.trod enc Try.prog W 0 (fun _ => true) true fuel t [.slice a0 len cap] = some x) : ∃ l : List α, len = l.length ∧ Rows enc' k W a0 l ∧ len ≤ cap ∧ cap ≤ maxLen ∧ ∀ y, y ∈ l → ok y := by
  rcases open_slice ht hf with ⟨hcs, _⟩ | ⟨a, len', cap', m, n, D, P, hcs, hb, hl, hm, hmm, hx, hc⟩
  · simp at hcs
    obtain ⟨rfl, rfl, rfl⟩ := hcs
    exact ⟨[], rfl, .inl rfl, Nat.le_refl _, by unfold maxLen; omega, by simp⟩
  · simp at hcs
    obtain ⟨rfl, rfl, rfl⟩ := hcs
    have hmm' : m = cap := by simpa using hmm
    rw [ce] at hc
    have each : ∀ i, i < len → ∃ y : α, W.cells? 0 (a.add (i * k)) k = some (enc' y) ∧ ok y := fun i hi => by
      obtain ⟨cs', h1, h2⟩ := hc i (by omega)
      obtain ⟨y, rfl, hy⟩ := hop n cs' _ (World.cells?_some h1).2.1 h2
      exact ⟨y, h1, hy⟩
    by_cases h0 : len = 0
    · subst h0; exact ⟨[], rfl, .inl rfl, hl, hm, by simp⟩
    obtain ⟨y0, _⟩ := each 0 (by omega)
    haveI : Inhabited α := ⟨y0⟩
    obtain ⟨V, hV⟩ := choose_lt (α := α) (p := fun i y => W.cells? 0 (a.add (i * k)) k = some (enc' y) ∧ ok y) each
    refine ⟨(List.range len).map V, by simp, .inr ?_, hl, hm, fun y hy => ?_⟩
    · obtain ⟨b, off, spot⟩ := a
      have hc0 := (World.cells?_some (hV 0 (by omega)).1).2.2 0 E.pos
      rw [List.getElem?_eq_getElem (by rw [E.len]; exact E.pos)] at hc0
      have hspot : spot = none := by
        have := World.cell?_spot hc0
        simpa [Addr.add] using this
      subst hspot
      have hcell : ∀ i, i < len → ∀ j, j < k → W.cell? ⟨b, off + i * k + j, none⟩ = (enc' (V i))[j]? := fun i hi j hj => by
        have h1 := (World.cells?_some (hV i hi).1).2.2 j hj
        rw [Go.WideShapes.add_plain, Go.WideShapes.add_plain] at h1
        exact h1
      refine ⟨b, off, rfl, ?_, fun i hi j v hj => ?_⟩
      · have := World.block_lt_of_cell? W _ hc0
        simpa [Addr.add] using this
      · have hi' : i < len := by simpa using hi
        have hjk : j < k := by
          rcases Nat.lt_or_ge j k with e | e
          · exact e
          · rw [List.getElem?_eq_none (by rw [E.len]; exact e)] at hj; cases hj
        rw [hcell i hi' j hjk]
        simpa using hj
    · obtain ⟨i, hi, rfl⟩ := List.mem_map.1 hy
      exact (hV i (List.mem_range.1 hi)).2

theorem nil_cell {H : Type} {enc : TypeId × Value → H} {W : World} {x : DataW H × List MemPlace} {t e : TypeId} {fuel : Nat} {a0 : Option Addr} {n cap : Nat} (ht : Try.prog.underlying t = some (.slice e)) (hf : DataW.trod enc Try.prog W 0 (fun _ => true) true fuel t [.slice a0 n cap] = some x) : a0 = none → n = 0 ∧ cap = 0 := by
  rcases open_slice ht hf with ⟨hcs, _⟩ | ⟨a', len', cap', m', n', D', P', hcs, _⟩
  · simp at hcs
    exact fun _ => ⟨hcs.2.1, hcs.2.2⟩
  · simp at hcs
    intro h
    rw [hcs.1] at h
    cases h
/-- a cell that holds a slice -/
theorem open_cell {α : Type} {enc' : α → List Value} {k : Nat} {ok : α → Prop} {H : Type} {enc : TypeId × Value → H} {W : World} {c : Value} {x : DataW H × List MemPlace} {t e : TypeId} {fuel : Nat} (ht : Try.prog.underlying t = some (.slice e)) (ce : Try.prog.cellsOf e = k) (E : Enc enc' k)
    (hop : ∀ (fuel : Nat) (cs : List Value) (x : DataW H × List MemPlace), cs.length = k → DataW.trod enc Try.prog W 0 (fun _ => true) true fuel e cs = some x → ∃ y, cs = enc' y ∧ ok y)
    (hf : DataW.trod enc Try.prog W 0 (fun _ => true) true fuel t [c] = some x) : ∃ (l : List α) (a0 : Option Addr) (cap : Nat), c = .slice a0 l.length cap ∧ Rows enc' k W a0 l ∧ l.length ≤ cap ∧ cap ≤ maxLen ∧ ∀ y, y ∈ l → ok y := by
  have hf' := hf
  rcases open_slice ht hf with ⟨hcs, _⟩ | ⟨a', len', cap', m', n', D', P', hcs, _⟩
  · simp at hcs
    subst hcs
    obtain ⟨y, e1, e2, e3, e4, e5⟩ := open_rows ht ce E hop hf'
    exact ⟨y, none, 0, by rw [← e1], e2, by omega, e4, e5⟩
  · simp at hcs
    subst hcs
    obtain ⟨y, e1, e2, e3, e4, e5⟩ := open_rows ht ce E hop hf'
    exact ⟨y, _, _, by rw [← e1], e2, by omega, e4, e5⟩
/-- a list of entries that came in -/
structure EnsIn (W : World) (A : Option Addr) (l : List Pl.En) (k : Nat) : Prop where
  rows : Rows enL 4 W A l
  cap : l.length ≤ k
  top : k ≤ maxLen
theorem EnsIn.below {W W' : World} {A : Option Addr} {l : List Pl.En} {k : Nat} (h : EnsIn W A l k) (hb : Below W.heap.size W W') : EnsIn W' A l k := ⟨h.rows.below hb, h.cap, h.top⟩
/-- bytes that came in -/
structure BysIn (W : World) (A : Option Addr) (l : List UInt8) (k : Nat) : Prop where
  rows : Rows u8L 1 W A l
  cap : l.length ≤ k
  top : k ≤ maxLen
  nil : A = none → k = 0
theorem BysIn.below {W W' : World} {A : Option Addr} {l : List UInt8} {k : Nat} (h : BysIn W A l k) (hb : Below W.heap.size W W') : BysIn W' A l k := ⟨h.rows.below hb, h.cap, h.top, h.nil⟩
section
variable {H : Type} {enc : TypeId × Value → H} {W : World} {base : Nat} {v : Value} {d : DataW H} {p : List MemPlace}
theorem open_ens {a0 : Option Addr} {len cap : Nat} (h : DataW.Trod enc Try.prog W 0 (fun _ => true) true 70 (.slice a0 len cap) d p) : ∃ l : List Pl.En, len = l.length ∧ EnsIn W a0 l cap := by
  obtain ⟨fuel, hf⟩ := h
  obtain ⟨l, h1, h2, h3, h4, _⟩ := open_rows (ok := fun _ => True) Try.underlying70 cellsEn encEn (fun fuel cs x hl hx => trod_en hl hx) (by simpa [Value.cells] using hf)
  exact ⟨l, h1, h2, by omega, h4⟩
theorem open_bys {a0 : Option Addr} {len cap : Nat} (h : DataW.Trod enc Try.prog W 0 (fun _ => true) true 29 (.slice a0 len cap) d p) : ∃ l : List UInt8, len = l.length ∧ BysIn W a0 l cap := by
  obtain ⟨fuel, hf⟩ := h
  have hf' : DataW.trod enc Try.prog W 0 (fun _ => true) true fuel 29 [.slice a0 len cap] = some (d, p) := by simpa [Value.cells] using hf
  obtain ⟨l, h1, h2, h3, h4, _⟩ := open_rows (ok := fun _ => True) Try.underlying29 cells5 encU8 (fun fuel cs x hl hx => trod_by hx) hf'
  exact ⟨l, h1, h2, by omega, h4, fun e => (nil_cell Try.underlying29 hf' e).2⟩
theorem open_en (hv : Value.okWide Try.prog W .any base 72 v) (h : DataW.Trod enc Try.prog W 0 (fun _ => true) true 72 v d p) : ∃ t : Pl.En, v = .agg (enA t) := by
  obtain ⟨⟨l⟩, rfl, hsz⟩ := okWide_struct Try.underlying72 hv
  obtain ⟨fuel, hf⟩ := h
  obtain ⟨t, e, _⟩ := trod_en (by simpa [Value.cells] using hsz.trans cellsEn) hf
  simp [Value.cells] at e
  exact ⟨t, by rw [e]⟩
end
end Go.Proofs.Ytalfffkcmddakab
