/- Rows of values said by a function; batches that are read in a region. -/
import Derived.Test.YtlfbfdhdkccaeaaGreatF2
import Derived.Laws.MakeOwn
namespace Go.Proofs.YtlfbfdhdkccaeaaGreat
open Go.RowKit Go.Shelf

/-- block g is a row of n values said by a function f -/
def StF {α : Type} (t : TypeId) (mk : α → Value) (W : World) (g n : Nat) (f : Nat → α) : Prop := ∃ arr : Array Value, Blk W g t arr ∧ arr.size = n ∧ ∀ q, q < n → arr[q]? = some (mk (f q))
section
variable {α : Type} {t : TypeId} {mk : α → Value} {W W' : World} {g n : Nat} {f f' : Nat → α}
theorem StF.lt (h : StF t mk W g n f) : g < W.heap.size := by obtain ⟨arr, h1, _⟩ := h; exact h1.lt
theorem StF.cell (h : StF t mk W g n f) {q : Nat} (hq : q < n) : W.cell? ⟨g, q, none⟩ = some (mk (f q)) := by
  obtain ⟨arr, h1, h2, h3⟩ := h
  rw [h1.cell q, h3 q hq]
theorem StF.frozen (h : StF t mk W g n f) (q : Nat) : W.frozen? ⟨g, q, none⟩ = false := by obtain ⟨arr, h1, _⟩ := h; exact h1.frozen q
theorem StF.below {B : Nat} (h : StF t mk W g n f) (hb : Below B W W') (hg : g < B) : StF t mk W' g n f := by
  obtain ⟨arr, h1, h2, h3⟩ := h
  exact ⟨arr, h1.below hb hg, h2, h3⟩
theorem StF.alloc (h : StF t mk W g n f) (o : Obj) : StF t mk (W.alloc o) g n f := by
  obtain ⟨arr, h1, h2, h3⟩ := h
  exact ⟨arr, h1.alloc o, h2, h3⟩
theorem StF.set (h : StF t mk W g n f) (k : Nat) (v : α) (hv : ∀ q, q < n → f' q = if q = k then v else f q) : StF t mk (W.setCell ⟨g, k, none⟩ (mk v)) g n f' := by
  obtain ⟨arr, h1, h2, h3⟩ := h
  refine ⟨_, h1.set_ k _, by simpa using h2, fun q hq => ?_⟩
  rw [Array.getElem?_setIfInBounds, hv q hq]
  by_cases e : k = q
  · subst e
    rw [if_pos rfl, if_pos (by omega), if_pos rfl]
  · rw [if_neg e, h3 q hq, if_neg (fun e' => e e'.symm)]
theorem StF.far (h : StF t mk W g n f) {p : Addr} (hp : g ≠ p.block) (u : Value) : StF t mk (W.setCell p u) g n f := by
  obtain ⟨arr, h1, h2, h3⟩ := h
  exact ⟨arr, h1.far hp u, h2, h3⟩
theorem StF.congr (h : StF t mk W g n f) (hv : ∀ q, q < n → f' q = f q) : StF t mk W g n f' := by
  obtain ⟨arr, h1, h2, h3⟩ := h
  exact ⟨arr, h1, h2, fun q hq => by rw [h3 q hq, hv q hq]⟩
theorem StF.new (w : World) (n : Nat) (t : TypeId) (mk : α → Value) (z : α) : StF t mk (w.alloc (.cells (madeCells #[mk z] n) t)) w.heap.size n (fun _ => z) := by
  refine ⟨_, Blk.new w _ _, size_madeCells _ _, fun q hq => ?_⟩
  rw [Array.getElem?_eq_getElem (by rw [size_madeCells]; exact hq)]
  simp [madeCells, Nat.mod_one]
end
abbrev StN := StF 3 (fun n : Nat => Value.int .i64 (n : Int))
abbrev StB := StF 4 Value.bool
theorem info3f : (Tryz.prog.info? 3).map (fun i => (i.zero, i.size, i.bytes)) = some (some (.int .i64 0), 1, 8) := by kernel_rfl
theorem info4f : (Tryz.prog.info? 4).map (fun i => (i.zero, i.size, i.bytes)) = some (some (.bool false), 1, 1) := by kernel_rfl
theorem ldr_bt {w : World} {b off : Nat} {t : Pl.Bt} (h : w.rangeAt b off (btA t).toList) : (Instr.loadAt 48 (.pointer (some ⟨b, off, none⟩))).run Tryz.prog w = .ok (.agg (btA t)) w :=
  run_loadAt_mid w b off 48 (btA t).toList _ h Tryz.underlying48 rfl info25
theorem ext_range {w0 : World} (s : Ext w0) {b off : Nat} {cs : List Value} (h : w0.rangeAt b off cs) (hb : b < w0.heap.size) : s.w.rangeAt b off cs := rangeAt_below h hb s.h
theorem row_cell {α : Type} {mk : α → Value} {W W' : World} {b off : Nat} {xs : List α} (hb : b < W.heap.size) (h : ∀ (i : Nat) (hi : i < xs.length), W.rangeAt b (off + i * 1) [mk xs[i]]) (hB : Below W.heap.size W W') {i : Nat} (hi : i < xs.length) : W'.cell? ⟨b, off + i, none⟩ = some (mk xs[i]) := by
  have := h i hi 0 _ rfl
  rw [Nat.mul_one] at this
  exact (hB.cell (p := ⟨b, off + i, none⟩) hb).trans this
end Go.Proofs.YtlfbfdhdkccaeaaGreat

