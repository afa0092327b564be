/- Calls for disks, steps, cuts that came in. -/
import Derived.Test.YtalfffkcmddakabOpen
import Derived.Test.YtalfffkcmddakabF3
namespace Go.Proofs.Ytalfffkcmddakab
open Go.ChangeShapes Go.WideShapes Go.ChangeAt Go.RowKit Go.Deep Go.Joins
set_option maxRecDepth 100000
theorem cells8 : Try.prog.cellsOf 29 = 1 := by kernel_rfl
theorem cellsAc : Try.prog.cellsOf 31 = 5 := by kernel_rfl
theorem cellsGs : Try.prog.cellsOf 50 = 6 := by kernel_rfl
theorem cellsCt : Try.prog.cellsOf 58 = 3 := by kernel_rfl
theorem wf_toNat {x : Int} (h : (Lit.int .i64 x).wf = true) : x.toNat ≤ maxLen := by
  simp [Lit.wf, IntKind.min, IntKind.max, IntKind.signed, IntKind.bits] at h
  unfold maxLen
  omega
section
variable {H : Type} {enc : TypeId × Value → H} {W : World} {fuel : Nat} {x : DataW H × List MemPlace}
theorem trod_u8 {cs : List Value} (h : DataW.trod enc Try.prog W 0 (fun _ => true) true fuel 5 cs = some x) : ∃ n : Int, cs = [.int .u8 n] ∧ 0 ≤ n ∧ n ≤ 255 := by
  obtain ⟨n, e, _, hw⟩ := DataW.trod_int (k := .u8) Try.underlying5 h
  obtain ⟨m, hm, rfl⟩ := u8_nat hw
  exact ⟨m, e, by omega, by omega⟩
theorem trod_bytes {c : Value} (h : DataW.trod enc Try.prog W 0 (fun _ => true) true fuel 29 [c] = some x) : ∃ (l : Pl.Bs) (a0 : Option Addr) (cap : Nat), c = .slice a0 l.length cap ∧ InB W a0 l cap := by
  obtain ⟨l, a0, cap, e, h1, h2, h3, _⟩ := open_cell (ok := fun _ => True) Try.underlying29 cells5 encU8 (fun fuel cs x hl hx => trod_by hx) h
  subst e
  exact ⟨l, a0, cap, rfl, h1, h2, h3, fun e => (nil_cell Try.underlying29 h e).2⟩
theorem trod_ac {cs : List Value} (hl : cs.length = 5) (h : DataW.trod enc Try.prog W 0 (fun _ => true) true fuel 31 cs = some x) : ∃ t : Pl.Ac, cs = acL t ∧ AcIn W t := by
  match cs, hl with
  | [c0, c1, c2, c3, c4], _ =>
    obtain ⟨xs, n, _, _, _, hlen, hg⟩ := DataW.trod_struct Try.underlying31 h
    match xs, hlen with
    | [y0, y1, y2, y3, y4], _ =>
      have g0 := hg 0 _ rfl
      have g1 := hg 1 _ rfl
      have g2 := hg 2 _ rfl
      have g3 := hg 3 _ rfl
      have g4 := hg 4 _ rfl
      simp [cells3, cells5, cells8] at g0 g1 g2 g3 g4
      obtain ⟨k0, e0, a0, a1⟩ := trod_u8 g0
      obtain ⟨k1, e1, _⟩ := trod_one g1
      obtain ⟨k2, e2, w2⟩ := trod_one g2
      obtain ⟨k3, e3, _⟩ := trod_one g3
      obtain ⟨l, a, cap, rfl, hB⟩ := trod_bytes g4
      cases e0; cases e1; cases e2; cases e3
      exact ⟨⟨k0, k1, k2, k3, l, a, cap⟩, rfl, hB, a0, a1, wf_toNat w2⟩
theorem trod_gs {cs : List Value} (hl : cs.length = 6) (h : DataW.trod enc Try.prog W 0 (fun _ => true) true fuel 50 cs = some x) : ∃ t : Pl.Gs, cs = gsL t ∧ GsIn W t := by
  match cs, hl with
  | [c0, c1, c2, c3, c4, c5], _ =>
    obtain ⟨xs, n, _, _, _, hlen, hg⟩ := DataW.trod_struct Try.underlying50 h
    match xs, hlen with
    | [y0, y1], _ =>
      have g0 := hg 0 _ rfl
      have g1 := hg 1 _ rfl
      simp [cellsAc, cells8] at g0 g1
      obtain ⟨t, e0, h0⟩ := trod_ac rfl g0
      obtain ⟨l, a, cap, rfl, hB⟩ := trod_bytes g1
      simp at e0
      obtain ⟨rfl, rfl, rfl, rfl, rfl⟩ := e0
      exact ⟨⟨t, l, a, cap⟩, rfl, h0, hB⟩
theorem trod_ct {cs : List Value} (hl : cs.length = 3) (h : DataW.trod enc Try.prog W 0 (fun _ => true) true fuel 58 cs = some x) : ∃ t : Pl.Ct, cs = ctL t ∧ CtIn W t := by
  match cs, hl with
  | [c0, c1, c2], _ =>
    obtain ⟨xs, n, _, _, _, hlen, hg⟩ := DataW.trod_struct Try.underlying58 h
    match xs, hlen with
    | [y0, y1, y2], _ =>
      have g0 := hg 0 _ rfl
      have g1 := hg 1 _ rfl
      have g2 := hg 2 _ rfl
      simp [cells3, cells5, cells8] at g0 g1 g2
      obtain ⟨l, a, cap, rfl, hB⟩ := trod_bytes g0
      obtain ⟨k1, e1, a0, a1⟩ := trod_u8 g1
      obtain ⟨k2, e2, _⟩ := trod_one g2
      cases e1; cases e2
      exact ⟨⟨l, a, cap, k1, k2⟩, rfl, hB, a0, a1⟩
end
section
variable {H : Type} {enc : TypeId × Value → H} {W : World} {d : DataW H} {p : List MemPlace}
theorem open_acts {a0 : Option Addr} {len cap : Nat} (h : DataW.Trod enc Try.prog W 0 (fun _ => true) true 22 (.slice a0 len cap) d p) : ∃ l : List Pl.Ac, len = l.length ∧ LsIn acL 5 AcIn W a0 l cap := by
  obtain ⟨fuel, hf⟩ := h
  obtain ⟨l, h1, h2, h3, h4, h5⟩ := open_rows (ok := AcIn W) Try.underlying22 cellsAc encAc (fun fuel cs x hl hx => trod_ac hl hx) (by simpa [Value.cells] using hf)
  exact ⟨l, h1, h2, by omega, h4, h5⟩
theorem open_gos {a0 : Option Addr} {len cap : Nat} (h : DataW.Trod enc Try.prog W 0 (fun _ => true) true 44 (.slice a0 len cap) d p) : ∃ l : List Pl.Gs, len = l.length ∧ LsIn gsL 6 GsIn W a0 l cap := by
  obtain ⟨fuel, hf⟩ := h
  obtain ⟨l, h1, h2, h3, h4, h5⟩ := open_rows (ok := GsIn W) Try.underlying44 cellsGs encGs (fun fuel cs x hl hx => trod_gs hl hx) (by simpa [Value.cells] using hf)
  exact ⟨l, h1, h2, by omega, h4, h5⟩
theorem open_cuts {a0 : Option Addr} {len cap : Nat} (h : DataW.Trod enc Try.prog W 0 (fun _ => true) true 53 (.slice a0 len cap) d p) : ∃ l : List Pl.Ct, len = l.length ∧ LsIn ctL 3 CtIn W a0 l cap := by
  obtain ⟨fuel, hf⟩ := h
  obtain ⟨l, h1, h2, h3, h4, h5⟩ := open_rows (ok := CtIn W) Try.underlying53 cellsCt encCt (fun fuel cs x hl hx => trod_ct hl hx) (by simpa [Value.cells] using hf)
  exact ⟨l, h1, h2, by omega, h4, h5⟩
end
end Go.Proofs.Ytalfffkcmddakab
