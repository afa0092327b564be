/- Entries, names and differences as values; loads of whole ones. -/
import Derived.Test.YtalfffkcmddakabF1
namespace Go.Proofs.Ytalfffkcmddakab
open Go.RowKit Go.Shelf

abbrev enA (e : Pl.En) : Array Value := #[.int .i64 e.k, .int .i64 e.r, .int .i64 e.d, .int .i64 e.c]
abbrev enL (e : Pl.En) : List Value := [.int .i64 e.k, .int .i64 e.r, .int .i64 e.d, .int .i64 e.c]
abbrev nmA (n : Pl.Nm) : Array Value := #[.int .i64 n.1, .int .i64 n.2]
abbrev nmL (n : Pl.Nm) : List Value := [.int .i64 n.1, .int .i64 n.2]
theorem encEn : Enc enL 4 where
  pos := by decide
  len _ := rfl
  one x v hv := by simp [enL] at hv; rcases hv with rfl | rfl | rfl | rfl <;> rfl
theorem infoEn : (Try.prog.info? 72).map (·.size) = some 4 := by kernel_rfl
theorem infoEn3 : (Try.prog.info? 72).map (fun i => (i.zero, i.size, i.bytes)) = some (some (.agg #[.int .i64 0, .int .i64 0, .int .i64 0, .int .i64 0]), 4, 32) := by kernel_rfl
theorem infoNm : (Try.prog.info? 101).map (·.size) = some 2 := by kernel_rfl
section
variable {ops : Array Oper} {rest : List Oper} {o : Oper} {a : Act} {w : World} {Q : Exit → Act → World → Prop} {b off : Nat}
theorem ldm_en {s : Pl.En} (hr : w.rangeAt b off (enL s)) (hw : Region.wanted o (yielded ops a.tmps) = true) (x : Operand) (ho : o.op = .load 72 x)
    (hx : a.eval x = .pointer (some ⟨b, off, none⟩)) (h : wpList Try.prog ops Q rest (a.put o.dst (.agg (enA s))) w) : wpList Try.prog ops Q (o :: rest) a w :=
  wpList_wanted hw fun _ hK => wp_load_mid 72 x ho b off hx (enL s) _ hr Try.underlying72 rfl infoEn (hK _ _ h)
theorem ldm_nm {s : Pl.Nm} (hr : w.rangeAt b off (nmL s)) (hw : Region.wanted o (yielded ops a.tmps) = true) (x : Operand) (ho : o.op = .load 101 x)
    (hx : a.eval x = .pointer (some ⟨b, off, none⟩)) (h : wpList Try.prog ops Q rest (a.put o.dst (.agg (nmA s))) w) : wpList Try.prog ops Q (o :: rest) a w :=
  wpList_wanted hw fun _ hK => wp_load_mid 101 x ho b off hx (nmL s) _ hr Try.underlying101 rfl infoNm (hK _ _ h)
end
theorem row_cell {α : Type} {mk : α → Value} {W W' : World} {b off : Nat} {xs : List α} (hb : b < W.heap.size) (h : ∀ (i : Nat) (hi : i < xs.length), W.rangeAt b (off + i * 1) [mk xs[i]]) (hB : Below W.heap.size W W') {i : Nat} (hi : i < xs.length) : W'.cell? ⟨b, off + i, none⟩ = some (mk xs[i]) := by
  have := h i hi 0 _ rfl
  rw [Nat.mul_one] at this
  exact (hB.cell (p := ⟨b, off + i, none⟩) hb).trans this
/-- a row's element, wherever all that lay lies as it lay -/
theorem row_at {α : Type} {enc : α → List Value} {k : Nat} {W W' : World} {b off : Nat} {xs : List α} (hb : b < W.heap.size) (h : ∀ (i : Nat) (hi : i < xs.length), W.rangeAt b (off + i * k) (enc xs[i])) (hB : Below W.heap.size W W') {i : Nat} (hi : i < xs.length) : W'.rangeAt b (off + i * k) (enc xs[i]) :=
  rangeAt_below (h i hi) hb hB
end Go.Proofs.Ytalfffkcmddakab
