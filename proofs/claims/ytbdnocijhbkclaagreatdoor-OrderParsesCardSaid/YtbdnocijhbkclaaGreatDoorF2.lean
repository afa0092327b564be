/- Steps, prices, rates, lines and forms as values. -/
import Derived.Test.YtbdnocijhbkclaaGreatDoorF1
namespace Go.Proofs.YtbdnocijhbkclaaGreatDoor
open Go.RowKit Go.Shelf

abbrev stA (s : Pl.Stp) : Array Value := #[.int .i64 s.c, .int .i64 s.m]
abbrev stL (s : Pl.Stp) : List Value := [.int .i64 s.c, .int .i64 s.m]
abbrev prA (p : Pl.Pr) : Array Value := #[.string p.md, .int .i64 p.d, .slice p.a p.st.length p.k]
abbrev prL (p : Pl.Pr) : List Value := [.string p.md, .int .i64 p.d, .slice p.a p.st.length p.k]
abbrev rtA (r : Pl.Rt) : Array Value := #[.string r.cur, .int .i64 r.d, .int .i64 r.num, .int .i64 r.den]
abbrev rtL (r : Pl.Rt) : List Value := [.string r.cur, .int .i64 r.d, .int .i64 r.num, .int .i64 r.den]
abbrev lnA (x : Pl.Ln) : Array Value := #[.string x.md, .int .i64 x.col, .int .i64 x.siz, .int .i64 x.cnt]
abbrev lnL (x : Pl.Ln) : List Value := [.string x.md, .int .i64 x.col, .int .i64 x.siz, .int .i64 x.cnt]
abbrev fmL (f : Pl.Fm) : List Value := [.string f.cus, .int .i64 f.d, .string f.cur, .slice f.a f.ls.length f.k]
abbrev fmA (f : Pl.Fm) : Array Value := #[.string f.cus, .int .i64 f.d, .string f.cur, .slice f.a f.ls.length f.k]
theorem encSt : Enc stL 2 where
  pos := by decide
  len _ := rfl
  one x v hv := by simp [stL] at hv; rcases hv with rfl | rfl <;> rfl
theorem encPr : Enc prL 3 where
  pos := by decide
  len _ := rfl
  one x v hv := by simp [prL] at hv; rcases hv with rfl | rfl | rfl <;> rfl
theorem encRt : Enc rtL 4 where
  pos := by decide
  len _ := rfl
  one x v hv := by simp [rtL] at hv; rcases hv with rfl | rfl | rfl | rfl <;> rfl
theorem encLn : Enc lnL 4 where
  pos := by decide
  len _ := rfl
  one x v hv := by simp [lnL] at hv; rcases hv with rfl | rfl | rfl | rfl <;> rfl
theorem infoSt : (Tryz.prog.info? 187).map (·.size) = some 2 := by kernel_rfl
theorem infoPr : (Tryz.prog.info? 41).map (·.size) = some 3 := by kernel_rfl
theorem infoRt : (Tryz.prog.info? 43).map (·.size) = some 4 := by kernel_rfl
theorem infoLn : (Tryz.prog.info? 45).map (·.size) = some 4 := by kernel_rfl
theorem infoFm : (Tryz.prog.info? 24).map (·.size) = some 4 := by kernel_rfl
theorem infoSc : (Tryz.prog.info? 79).map (·.size) = some 2 := by kernel_rfl
theorem infoMk : (Tryz.prog.info? 29).map (·.size) = some 2 := by kernel_rfl
/-- a name and a day -/
abbrev scA (k : Pl.Ky) : Array Value := #[.string k.1, .int .i64 k.2]
abbrev scL (k : Pl.Ky) : List Value := [.string k.1, .int .i64 k.2]
section
variable {ops : Array Oper} {rest : List Oper} {o : Oper} {a : Act} {w : World} {Q : Exit → Act → World → Prop} {b off : Nat}
theorem ldm_st {s : Pl.Stp} (hr : w.rangeAt b off (stL s)) (hw : Region.wanted o (yielded ops a.tmps) = true) (x : Operand) (ho : o.op = .load 187 x)
    (hx : a.eval x = .pointer (some ⟨b, off, none⟩)) (h : wpList Tryz.prog ops Q rest (a.put o.dst (.agg (stA s))) w) : wpList Tryz.prog ops Q (o :: rest) a w :=
  wpList_wanted hw fun _ hK => wp_load_mid 187 x ho b off hx (stL s) _ hr Tryz.underlying187 rfl infoSt (hK _ _ h)
theorem ldm_pr {s : Pl.Pr} (hr : w.rangeAt b off (prL s)) (hw : Region.wanted o (yielded ops a.tmps) = true) (x : Operand) (ho : o.op = .load 41 x)
    (hx : a.eval x = .pointer (some ⟨b, off, none⟩)) (h : wpList Tryz.prog ops Q rest (a.put o.dst (.agg (prA s))) w) : wpList Tryz.prog ops Q (o :: rest) a w :=
  wpList_wanted hw fun _ hK => wp_load_mid 41 x ho b off hx (prL s) _ hr Tryz.underlying41 rfl infoPr (hK _ _ h)
theorem ldm_rt {s : Pl.Rt} (hr : w.rangeAt b off (rtL s)) (hw : Region.wanted o (yielded ops a.tmps) = true) (x : Operand) (ho : o.op = .load 43 x)
    (hx : a.eval x = .pointer (some ⟨b, off, none⟩)) (h : wpList Tryz.prog ops Q rest (a.put o.dst (.agg (rtA s))) w) : wpList Tryz.prog ops Q (o :: rest) a w :=
  wpList_wanted hw fun _ hK => wp_load_mid 43 x ho b off hx (rtL s) _ hr Tryz.underlying43 rfl infoRt (hK _ _ h)
theorem ldm_ln {s : Pl.Ln} (hr : w.rangeAt b off (lnL s)) (hw : Region.wanted o (yielded ops a.tmps) = true) (x : Operand) (ho : o.op = .load 45 x)
    (hx : a.eval x = .pointer (some ⟨b, off, none⟩)) (h : wpList Tryz.prog ops Q rest (a.put o.dst (.agg (lnA s))) w) : wpList Tryz.prog ops Q (o :: rest) a w :=
  wpList_wanted hw fun _ hK => wp_load_mid 45 x ho b off hx (lnL s) _ hr Tryz.underlying45 rfl infoLn (hK _ _ h)
theorem ldm_fm {s : Pl.Fm} (hr : w.rangeAt b off (fmL s)) (hw : Region.wanted o (yielded ops a.tmps) = true) (x : Operand) (ho : o.op = .load 24 x)
    (hx : a.eval x = .pointer (some ⟨b, off, none⟩)) (h : wpList Tryz.prog ops Q rest (a.put o.dst (.agg (fmA s))) w) : wpList Tryz.prog ops Q (o :: rest) a w :=
  wpList_wanted hw fun _ hK => wp_load_mid 24 x ho b off hx (fmL s) _ hr Tryz.underlying24 rfl infoFm (hK _ _ h)
theorem ldm_sc {s : Pl.Ky} (hr : w.rangeAt b off (scL s)) (hw : Region.wanted o (yielded ops a.tmps) = true) (x : Operand) (ho : o.op = .load 79 x)
    (hx : a.eval x = .pointer (some ⟨b, off, none⟩)) (h : wpList Tryz.prog ops Q rest (a.put o.dst (.agg (scA s))) w) : wpList Tryz.prog ops Q (o :: rest) a w :=
  wpList_wanted hw fun _ hK => wp_load_mid 79 x ho b off hx (scL s) _ hr Tryz.underlying79 rfl infoSc (hK _ _ h)
end
theorem row_cell {α : Type} {mk : α → Value} {W W' : World} {b off : Nat} {xs : List α} (hb : b < W.heap.size) (h : ∀ (i : Nat) (hi : i < xs.length), W.rangeAt b (off + i * 1) [mk xs[i]]) (hB : Below W.heap.size W W') {i : Nat} (hi : i < xs.length) : W'.cell? ⟨b, off + i, none⟩ = some (mk xs[i]) := by
  have := h i hi 0 _ rfl
  rw [Nat.mul_one] at this
  exact (hB.cell (p := ⟨b, off + i, none⟩) hb).trans this
/-- a row's element, wherever all that lay lies as it lay -/
theorem row_at {α : Type} {enc : α → List Value} {k : Nat} {W W' : World} {b off : Nat} {xs : List α} (hb : b < W.heap.size) (h : ∀ (i : Nat) (hi : i < xs.length), W.rangeAt b (off + i * k) (enc xs[i])) (hB : Below W.heap.size W W') {i : Nat} (hi : i < xs.length) : W'.rangeAt b (off + i * k) (enc xs[i]) :=
  rangeAt_below (h i hi) hb hB
end Go.Proofs.YtbdnocijhbkclaaGreatDoor
