/- Posts that came in. -/
import Derived.Test.YtalfffkcmddakabOpenA
import Derived.Test.YtalfffkcmddakabP4
namespace Go.Proofs.Ytalfffkcmddakab
open Go.ChangeShapes Go.WideShapes Go.ChangeAt Go.RowKit Go.Deep Go.Joins
set_option maxRecDepth 100000
abbrev psA (x : Pl.Ps) : Array Value := #[.int .i64 x.e.k, .int .i64 x.e.r, .int .i64 x.e.d, .int .i64 x.e.c, .bool x.ls, .int .i64 x.kp]
abbrev psL (x : Pl.Ps) : List Value := [.int .i64 x.e.k, .int .i64 x.e.r, .int .i64 x.e.d, .int .i64 x.e.c, .bool x.ls, .int .i64 x.kp]
theorem encPs : Enc psL 6 where
  pos := by decide
  len _ := rfl
  one x v hv := by simp [psL] at hv; rcases hv with rfl | rfl | rfl | rfl | rfl | rfl <;> rfl
theorem infoPs : (Try.prog.info? 74).map (·.size) = some 6 := by kernel_rfl
theorem cellsPs : Try.prog.cellsOf 74 = 6 := by kernel_rfl
theorem ldm_ps {ops : Array Oper} {rest : List Oper} {o : Oper} {a : Act} {w : World} {Q : Exit → Act → World → Prop} {b off : Nat} {s : Pl.Ps} (hr : w.rangeAt b off (psL s)) (hw : Region.wanted o (yielded ops a.tmps) = true) (x : Operand) (ho : o.op = .load 74 x)
    (hx : a.eval x = .pointer (some ⟨b, off, none⟩)) (h : wpList Try.prog ops Q rest (a.put o.dst (.agg (psA s))) w) : wpList Try.prog ops Q (o :: rest) a w :=
  wpList_wanted hw fun _ hK => wp_load_mid 74 x ho b off hx (psL s) _ hr Try.underlying74 rfl infoPs (hK _ _ h)
section
variable {H : Type} {enc : TypeId × Value → H} {W : World} {fuel : Nat} {x : DataW H × List MemPlace}
theorem trod_ps {cs : List Value} (hl : cs.length = 6) (h : DataW.trod enc Try.prog W 0 (fun _ => true) true fuel 74 cs = some x) : ∃ t : Pl.Ps, cs = psL t ∧ True := by
  match cs, hl with
  | [c0, c1, c2, c3, c4, c5], _ =>
    obtain ⟨xs, n, _, _, _, hlen, hg⟩ := DataW.trod_struct Try.underlying74 h
    match xs, hlen with
    | [y0, y1, y2], _ =>
      have g0 := hg 0 _ rfl
      have g1 := hg 1 _ rfl
      have g2 := hg 2 _ rfl
      simp [cells3, cells4, cellsEn] at g0 g1 g2
      obtain ⟨t, e0, _⟩ := trod_en rfl g0
      obtain ⟨k1, e1, _⟩ := trod_bo g1
      obtain ⟨k2, e2, _⟩ := trod_one g2
      simp at e0
      obtain ⟨rfl, rfl, rfl, rfl⟩ := e0
      cases e1; cases e2
      exact ⟨⟨t, k1, k2⟩, rfl, trivial⟩
end
structure PsIn (W : World) (A : Option Addr) (l : List Pl.Ps) (c : Nat) : Prop where
  rows : Rows psL 6 W A l
  cap : l.length ≤ c
  top : c ≤ maxLen
section
variable {H : Type} {enc : TypeId × Value → H} {W : World} {d : DataW H} {p : List MemPlace}
theorem open_posts {a0 : Option Addr} {len cap : Nat} (h : DataW.Trod enc Try.prog W 0 (fun _ => true) true 69 (.slice a0 len cap) d p) : ∃ l : List Pl.Ps, len = l.length ∧ PsIn W a0 l cap := by
  obtain ⟨fuel, hf⟩ := h
  obtain ⟨l, h1, h2, h3, h4, _⟩ := open_rows (ok := fun _ => True) Try.underlying69 cellsPs encPs (fun fuel cs x hl hx => trod_ps hl hx) (by simpa [Value.cells] using hf)
  exact ⟨l, h1, h2, by omega, h4⟩
end
end Go.Proofs.Ytalfffkcmddakab
