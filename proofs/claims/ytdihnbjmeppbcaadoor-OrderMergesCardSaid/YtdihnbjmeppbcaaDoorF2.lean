/- Steps, prices, rates, lines and forms as values. -/
import Derived.Test.YtdihnbjmeppbcaaDoorF1
namespace Go.Proofs.YtdihnbjmeppbcaaDoor
open Go.RowKit Go.Shelf

abbrev stA (s : Pl.Stp) : Array Value := #[.int .i64 s.c, .int .i64 s.m]
abbrev stL (s : Pl.Stp) : List Value := [.int .i64 s.c, .int .i64 s.m]
abbrev prA (p : Pl.Pr) : Array Value := #[.string p.md, .int .i64 p.d, .slice p.a p.st.length p.k]
abbrev prL (p : Pl.Pr) : List Value := [.string p.md, .int .i64 p.d, .slice p.a p.st.length p.k]
abbrev rtA (r : Pl.Rt) : Array Value := #[.string r.cur, .int .i64 r.d, .int .i64 r.num, .int .i64 r.den]
abbrev rtL (r : Pl.Rt) : List Value := [.string r.cur, .int .i64 r.d, .int .i64 r.num, .int .i64 r.den]
abbrev lnA (x : Pl.Ln) : Array Value := #[.string x.md, .int .i64 x.col, .int .i64 x.siz, .int .i64 x.cnt]
abbrev lnL (x : Pl.Ln) : List Value := [.string x.md, .int .i64 x.col, .int .i64 x.siz, .int .i64 x.cnt]
abbrev fmL (f : Pl.Fm) : List Value := [.string f.cus, .int .i64 f.d, .string f.cur, .slice f.a f.ls.length f.k]
abbrev fmA (f : Pl.Fm) : Array Value := #[.string f.cus, .int .i64 f.d, .string f.cur, .slice f.a f.ls.length f.k]
theorem encSt : Enc stL 2 where
  pos := by decide
  len _ := rfl
  one x v hv := by simp [stL] at hv; rcases hv with rfl | rfl <;> rfl
theorem encPr : Enc prL 3 where
  pos := by decide
  len _ := rfl
  one x v hv := by simp [prL] at hv; rcases hv with rfl | rfl | rfl <;> rfl
theorem encRt : Enc rtL 4 where
  pos := by decide
  len _ := rfl
  one x v hv := by simp [rtL] at hv; rcases hv with rfl | rfl | rfl | rfl <;> rfl
theorem encLn : Enc lnL 4 where
  pos := by decide
  len _ := rfl
  one x v hv := by simp [lnL] at hv; rcases hv with rfl | rfl | rfl | rfl <;> rfl
theorem infoSt : (Tryd.prog.info? 95).map (·.size) = some 2 := by kernel_rfl
theorem infoPr : (Tryd.prog.info? 67).map (·.size) = some 3 := by kernel_rfl
theorem infoRt : (Tryd.prog.info? 70).map (·.size) = some 4 := by kernel_rfl
theorem infoLn : (Tryd.prog.info? 55).map (·.size) = some 4 := by kernel_rfl
theorem infoFm : (Tryd.prog.info? 28).map (·.size) = some 4 := by kernel_rfl
theorem infoSc : (Tryd.prog.info? 75).map (·.size) = some 2 := by kernel_rfl
theorem infoMk : (Tryd.prog.info? 25).map (·.size) = some 2 := by kernel_rfl
theorem infoAs : (Tryd.prog.info? 35).map (·.size) = some 3 := by kernel_rfl
/-- a name and a day -/
abbrev scA (k : Pl.Ky) : Array Value := #[.string k.1, .int .i64 k.2]
abbrev scL (k : Pl.Ky) : List Value := [.string k.1, .int .i64 k.2]
section
variable {ops : Array Oper} {rest : List Oper} {o : Oper} {a : Act} {w : World} {Q : Exit → Act → World → Prop} {b off : Nat}
theorem ldm_st {s : Pl.Stp} (hr : w.rangeAt b off (stL s)) (hw : Region.wanted o (yielded ops a.tmps) = true) (x : Operand) (ho : o.op = .load 95 x)
    (hx : a.eval x = .pointer (some ⟨b, off, none⟩)) (h : wpList Tryd.prog ops Q rest (a.put o.dst (.agg (stA s))) w) : wpList Tryd.prog ops Q (o :: rest) a w :=
  wpList_wanted hw fun _ hK => wp_load_mid 95 x ho b off hx (stL s) _ hr Tryd.underlying95 rfl infoSt (hK _ _ h)
theorem ldm_pr {s : Pl.Pr} (hr : w.rangeAt b off (prL s)) (hw : Region.wanted o (yielded ops a.tmps) = true) (x : Operand) (ho : o.op = .load 67 x)
    (hx : a.eval x = .pointer (some ⟨b, off, none⟩)) (h : wpList Tryd.prog ops Q rest (a.put o.dst (.agg (prA s))) w) : wpList Tryd.prog ops Q (o :: rest) a w :=
  wpList_wanted hw fun _ hK => wp_load_mid 67 x ho b off hx (prL s) _ hr Tryd.underlying67 rfl infoPr (hK _ _ h)
theorem ldm_rt {s : Pl.Rt} (hr : w.rangeAt b off (rtL s)) (hw : Region.wanted o (yielded ops a.tmps) = true) (x : Operand) (ho : o.op = .load 70 x)
    (hx : a.eval x = .pointer (some ⟨b, off, none⟩)) (h : wpList Tryd.prog ops Q rest (a.put o.dst (.agg (rtA s))) w) : wpList Tryd.prog ops Q (o :: rest) a w :=
  wpList_wanted hw fun _ hK => wp_load_mid 70 x ho b off hx (rtL s) _ hr Tryd.underlying70 rfl infoRt (hK _ _ h)
theorem ldm_ln {s : Pl.Ln} (hr : w.rangeAt b off (lnL s)) (hw : Region.wanted o (yielded ops a.tmps) = true) (x : Operand) (ho : o.op = .load 55 x)
    (hx : a.eval x = .pointer (some ⟨b, off, none⟩)) (h : wpList Tryd.prog ops Q rest (a.put o.dst (.agg (lnA s))) w) : wpList Tryd.prog ops Q (o :: rest) a w :=
  wpList_wanted hw fun _ hK => wp_load_mid 55 x ho b off hx (lnL s) _ hr Tryd.underlying55 rfl infoLn (hK _ _ h)
theorem ldm_fm {s : Pl.Fm} (hr : w.rangeAt b off (fmL s)) (hw : Region.wanted o (yielded ops a.tmps) = true) (x : Operand) (ho : o.op = .load 28 x)
    (hx : a.eval x = .pointer (some ⟨b, off, none⟩)) (h : wpList Tryd.prog ops Q rest (a.put o.dst (.agg (fmA s))) w) : wpList Tryd.prog ops Q (o :: rest) a w :=
  wpList_wanted hw fun _ hK => wp_load_mid 28 x ho b off hx (fmL s) _ hr Tryd.underlying28 rfl infoFm (hK _ _ h)
theorem ldm_sc {s : Pl.Ky} (hr : w.rangeAt b off (scL s)) (hw : Region.wanted o (yielded ops a.tmps) = true) (x : Operand) (ho : o.op = .load 75 x)
    (hx : a.eval x = .pointer (some ⟨b, off, none⟩)) (h : wpList Tryd.prog ops Q rest (a.put o.dst (.agg (scA s))) w) : wpList Tryd.prog ops Q (o :: rest) a w :=
  wpList_wanted hw fun _ hK => wp_load_mid 75 x ho b off hx (scL s) _ hr Tryd.underlying75 rfl infoSc (hK _ _ h)
end
theorem row_cell {α : Type} {mk : α → Value} {W W' : World} {b off : Nat} {xs : List α} (hb : b < W.heap.size) (h : ∀ (i : Nat) (hi : i < xs.length), W.rangeAt b (off + i * 1) [mk xs[i]]) (hB : Below W.heap.size W W') {i : Nat} (hi : i < xs.length) : W'.cell? ⟨b, off + i, none⟩ = some (mk xs[i]) := by
  have := h i hi 0 _ rfl
  rw [Nat.mul_one] at this
  exact (hB.cell (p := ⟨b, off + i, none⟩) hb).trans this
/-- a row's element, wherever all that lay lies as it lay -/
theorem row_at {α : Type} {enc : α → List Value} {k : Nat} {W W' : World} {b off : Nat} {xs : List α} (hb : b < W.heap.size) (h : ∀ (i : Nat) (hi : i < xs.length), W.rangeAt b (off + i * k) (enc xs[i])) (hB : Below W.heap.size W W') {i : Nat} (hi : i < xs.length) : W'.rangeAt b (off + i * k) (enc xs[i]) :=
  rangeAt_below (h i hi) hb hB
end Go.Proofs.YtdihnbjmeppbcaaDoor
