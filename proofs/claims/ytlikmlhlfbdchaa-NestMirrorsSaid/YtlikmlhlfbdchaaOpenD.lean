/- nest: desks and places that came in. -/
import Derived.Test.YtlikmlhlfbdchaaOpenC
import Derived.Test.YtlikmlhlfbdchaaNX
import Derived.ChangeSlices
namespace Go.Proofs.Ytlikmlhlfbdchaa
open Go.ChangeShapes Go.WideShapes Go.ChangeAt Go.RowKit Go.Deep Go.Joins
set_option maxRecDepth 100000

theorem cells3' : Try.prog.cellsOf 3 = 1 := by kernel_rfl
theorem cells4 : Try.prog.cellsOf 4 = 1 := by kernel_rfl
theorem cellsRc : Try.prog.cellsOf 44 = 4 := by kernel_rfl
theorem cellsPc : Try.prog.cellsOf 40 = 4 := by kernel_rfl
theorem cellsPa : Try.prog.cellsOf 68 = 2 := by kernel_rfl
theorem cellsBo : Try.prog.cellsOf 33 = 4 := by kernel_rfl
theorem cellsXs : Try.prog.cellsOf 22 = 1 := by kernel_rfl
theorem cellsRs : Try.prog.cellsOf 31 = 1 := by kernel_rfl
theorem cellsPs : Try.prog.cellsOf 34 = 1 := by kernel_rfl
theorem cellsLs : Try.prog.cellsOf 35 = 1 := by kernel_rfl
theorem cellsDk : Try.prog.cellsOf 37 = 6 := by kernel_rfl
def W64 (x : Int) : Prop := -9223372036854775808 ≤ x ∧ x ≤ 9223372036854775807
theorem w64_of {x : Int} (h : (Lit.int .i64 x).wf = true) : W64 x := by
  simp [Lit.wf, IntKind.min, IntKind.max, IntKind.signed, IntKind.bits] at h
  unfold W64
  omega
section
variable {H : Type} {enc : TypeId × Value → H} {W : World} {base : Nat} {spare : Nat → Bool} {held : Bool} {fuel : Nat} {x : DataW H × List MemPlace}
theorem trod_one {cs : List Value} (h : DataW.trod enc Try.prog W base spare held fuel 3 cs = some x) : ∃ n, cs = [.int .i64 n] ∧ W64 n := by
  obtain ⟨n, e, _, hw⟩ := DataW.trod_int (k := .i64) Try.underlying3 h
  exact ⟨n, e, w64_of hw⟩
def OkPc (p : Ne.Pc) : Prop := W64 p.p ∧ W64 p.x ∧ W64 p.y
theorem trod_rc {cs : List Value} (hl : cs.length = 4) (h : DataW.trod enc Try.prog W base spare held fuel 44 cs = some x) : ∃ t : Ne.Rc, cs = Ne.rcL t ∧ True := by
  match cs, hl with
  | [c0, c1, c2, c3], _ =>
    obtain ⟨xs, n, _, _, _, hlen, hg⟩ := DataW.trod_struct Try.underlying44 h
    match xs, hlen with
    | [y0, y1, y2, y3], _ =>
      have g0 := hg 0 _ rfl
      have g1 := hg 1 _ rfl
      have g2 := hg 2 _ rfl
      have g3 := hg 3 _ rfl
      simp [cells3'] at g0 g1 g2 g3
      obtain ⟨k0, e0, w0⟩ := trod_one g0
      obtain ⟨k1, e1, w1⟩ := trod_one g1
      obtain ⟨k2, e2, w2⟩ := trod_one g2
      obtain ⟨k3, e3, w3⟩ := trod_one g3
      cases e0; cases e1; cases e2; cases e3
      exact ⟨⟨k0, k1, k2, k3⟩, rfl, trivial⟩
theorem trod_pc {cs : List Value} (hl : cs.length = 4) (h : DataW.trod enc Try.prog W base spare held fuel 40 cs = some x) : ∃ t : Ne.Pc, cs = Ne.pcL t ∧ OkPc t := by
  match cs, hl with
  | [c0, c1, c2, c3], _ =>
    obtain ⟨xs, n, _, _, _, hlen, hg⟩ := DataW.trod_struct Try.underlying40 h
    match xs, hlen with
    | [y0, y1, y2, y3], _ =>
      have g0 := hg 0 _ rfl
      have g1 := hg 1 _ rfl
      have g2 := hg 2 _ rfl
      have g3 := hg 3 _ rfl
      simp [cells3', cells4] at g0 g1 g2 g3
      obtain ⟨k0, e0, w0⟩ := trod_one g0
      obtain ⟨k1, e1, w1⟩ := trod_one g1
      obtain ⟨k2, e2, w2⟩ := trod_one g2
      obtain ⟨b, e3, _⟩ := DataW.trod_bool Try.underlying4 g3
      cases e0; cases e1; cases e2; cases e3
      exact ⟨⟨k0, k1, k2, b⟩, rfl, w0, w1, w2⟩
end
/-- a slice of elements of k cells that came in -/
theorem open_rows {α : Type} {enc' : α → List Value} {k : Nat} {ok : α → Prop} {H : Type} {enc : TypeId × Value → H} {W : World} {a0 : Option Addr} {len cap : Nat} {x : DataW H × List MemPlace} {t e : TypeId} {fuel : Nat} (ht : Try.prog.underlying t = some (.slice e)) (ce : Try.prog.cellsOf e = k) (E : Enc enc' k)
    (hop : ∀ (fuel : Nat) (cs : List Value) (x : DataW H × List MemPlace), cs.length = k → DataW.trod enc Try.prog W 0 (fun _ => true) true fuel e cs = some x → ∃ y, cs = enc' y ∧ ok y)
    (hf : DataW.trod enc Try.prog W 0 (fun _ => true) true fuel t [.slice a0 len cap] = some x) : ∃ l : List α, len = l.length ∧ Rows enc' k W a0 l ∧ len ≤ cap ∧ cap ≤ maxLen ∧ ∀ y, y ∈ l → ok y := by
  rcases open_slice ht hf with ⟨hcs, _⟩ | ⟨a, len', cap', m, n, D, P, hcs, hb, hl, hm, hmm, hx, hc⟩
  · simp at hcs
    obtain ⟨rfl, rfl, rfl⟩ := hcs
    exact ⟨[], rfl, .inl rfl, Nat.le_refl _, by unfold maxLen; omega, by simp⟩
  · simp at hcs
    obtain ⟨rfl, rfl, rfl⟩ := hcs
    have hmm' : m = cap := by simpa using hmm
    rw [ce] at hc
    have each : ∀ i, i < len → ∃ y : α, W.cells? 0 (a.add (i * k)) k = some (enc' y) ∧ ok y := fun i hi => by
      obtain ⟨cs', h1, h2⟩ := hc i (by omega)
      obtain ⟨y, rfl, hy⟩ := hop n cs' _ (World.cells?_some h1).2.1 h2
      exact ⟨y, h1, hy⟩
    by_cases h0 : len = 0
    · subst h0; exact ⟨[], rfl, .inl rfl, hl, hm, by simp⟩
    obtain ⟨y0, _⟩ := each 0 (by omega)
    haveI : Inhabited α := ⟨y0⟩
    obtain ⟨V, hV⟩ := choose_lt (α := α) (p := fun i y => W.cells? 0 (a.add (i * k)) k = some (enc' y) ∧ ok y) each
    refine ⟨(List.range len).map V, by simp, .inr ?_, hl, hm, fun y hy => ?_⟩
    · obtain ⟨b, off, spot⟩ := a
      have hc0 := (World.cells?_some (hV 0 (by omega)).1).2.2 0 E.pos
      rw [List.getElem?_eq_getElem (by rw [E.len]; exact E.pos)] at hc0
      have hspot : spot = none := by
        have := World.cell?_spot hc0
        simpa [Addr.add] using this
      subst hspot
      have hcell : ∀ i, i < len → ∀ j, j < k → W.cell? ⟨b, off + i * k + j, none⟩ = (enc' (V i))[j]? := fun i hi j hj => by
        have h1 := (World.cells?_some (hV i hi).1).2.2 j hj
        rw [Go.WideShapes.add_plain, Go.WideShapes.add_plain] at h1
        exact h1
      refine ⟨b, off, rfl, ?_, fun i hi j v hj => ?_⟩
      · have := World.block_lt_of_cell? W _ hc0
        simpa [Addr.add] using this
      · have hi' : i < len := by simpa using hi
        have hjk : j < k := by
          rcases Nat.lt_or_ge j k with e | e
          · exact e
          · rw [List.getElem?_eq_none (by rw [E.len]; exact e)] at hj; cases hj
        rw [hcell i hi' j hjk]
        simpa using hj
    · obtain ⟨i, hi, rfl⟩ := List.mem_map.1 hy
      exact (hV i (List.mem_range.1 hi)).2

section
variable {H : Type} {enc : TypeId × Value → H} {W : World}
theorem open_pts_f {a0 : Option Addr} {len cap fuel : Nat} {x : DataW H × List MemPlace} (hf : DataW.trod enc Try.prog W 0 (fun _ => true) true fuel 22 [.slice a0 len cap] = some x) : ∃ l : List Geo.XY, len = l.length ∧ Pts W a0 l ∧ len ≤ cap := by
  obtain ⟨l, h1, h2, h3⟩ := open_ptsC (a0 := a0) (len := len) (cap := cap) (d := x.1) (p := x.2) ⟨fuel, by simpa [Value.cells] using hf⟩
  exact ⟨l, h1.symm, h2, by omega⟩
/-- parts that came in -/
theorem open_pas {a0 : Option Addr} {len cap fuel : Nat} {x : DataW H × List MemPlace} (hf : DataW.trod enc Try.prog W 0 (fun _ => true) true fuel 34 [.slice a0 len cap] = some x) : ∃ l : List Ne.Pa, len = l.length ∧ Ne.PaM W a0 l ∧ len ≤ cap ∧ cap ≤ maxLen := by
  rcases open_slice Try.underlying34 hf with ⟨hcs, _⟩ | ⟨a, len', cap', m, n, D, P, hcs, hb, hl, hm, hmm, hx, hc⟩
  · simp at hcs
    obtain ⟨rfl, rfl, rfl⟩ := hcs
    exact ⟨[], rfl, .inl rfl, Nat.le_refl _, by unfold maxLen; omega⟩
  · simp at hcs
    obtain ⟨rfl, rfl, rfl⟩ := hcs
    have hmm' : m = cap := by simpa using hmm
    rw [cellsPa] at hc
    have each : ∀ i, i < len → ∃ y : Ne.Pa, ∃ A c, W.cell? ((a.add (i * 2)).add 0) = some (.slice A y.o.length c) ∧ W.cell? ((a.add (i * 2)).add 1) = some (.bool y.t) ∧ Pts W A y.o ∧ y.o.length ≤ c := fun i hi => by
      obtain ⟨cs', h1, h2⟩ := hc i (by omega)
      have hl1 := (World.cells?_some h1).2.1
      match cs', hl1 with
      | [c0, c1], _ =>
        have q0 := (World.cells?_some h1).2.2 0 (by omega)
        have q1 := (World.cells?_some h1).2.2 1 (by omega)
        obtain ⟨xs, k, _, _, _, hlen, hg⟩ := DataW.trod_struct Try.underlying68 h2
        match xs, hlen with
        | [y0, y1], _ =>
          have g0 := hg 0 _ rfl
          have g1 := hg 1 _ rfl
          simp [cellsXs, cells4] at g0 g1
          obtain ⟨b, e1, _⟩ := DataW.trod_bool Try.underlying4 g1
          cases e1
          have g0' := g0
          rcases open_slice Try.underlying22 g0 with ⟨hcs, _⟩ | ⟨a', len', cap', m', n', D', P', hcs, _⟩
          · simp at hcs
            subst hcs
            obtain ⟨l, h3, h4, h5⟩ := open_pts_f g0'
            exact ⟨⟨l, b⟩, none, 0, by rw [← h3]; exact q0, q1, h4, by rw [← h3]; exact h5⟩
          · simp at hcs
            subst hcs
            obtain ⟨l, h3, h4, h5⟩ := open_pts_f g0'
            exact ⟨⟨l, b⟩, _, _, by rw [← h3]; exact q0, q1, h4, by rw [← h3]; exact h5⟩
    by_cases h0 : len = 0
    · subst h0; exact ⟨[], rfl, .inl rfl, hl, hm⟩
    haveI : Inhabited Ne.Pa := ⟨Ne.za⟩
    obtain ⟨V, hV⟩ := choose_lt (α := Ne.Pa) (p := fun i y => ∃ A c, W.cell? ((a.add (i * 2)).add 0) = some (.slice A y.o.length c) ∧ W.cell? ((a.add (i * 2)).add 1) = some (.bool y.t) ∧ Pts W A y.o ∧ y.o.length ≤ c) each
    refine ⟨(List.range len).map V, by simp, .inr ?_, hl, hm⟩
    obtain ⟨b, off, spot⟩ := a
    obtain ⟨A0, c0, hc0, _⟩ := hV 0 (by omega)
    have hspot : spot = none := by
      have := World.cell?_spot hc0
      simpa [Addr.add] using this
    subst hspot
    refine ⟨b, off, rfl, ?_, fun j hj => ?_⟩
    · have := World.block_lt_of_cell? W _ hc0
      simpa [Addr.add] using this
    · have hj' : j < len := by simpa using hj
      obtain ⟨A', c', h1, h2, h3, h4⟩ := hV j hj'
      have hg : ((List.range len).map V).getD j Ne.za = V j := by
        rw [List.getD_eq_getElem?_getD, List.getElem?_map, List.getElem?_range hj']; rfl
      rw [hg]
      rw [Go.WideShapes.add_plain, Go.WideShapes.add_plain] at h1 h2
      exact ⟨A', c', h1, h2, h3, h4⟩
theorem open_pc {base : Nat} {v : Value} {d : DataW H} {p : List MemPlace} (hv : Value.okWide Try.prog W .any base 40 v) (h : DataW.Trod enc Try.prog W 0 (fun _ => true) true 40 v d p) : ∃ t : Ne.Pc, v = .agg (Ne.pcL t).toArray ∧ OkPc t := by
  obtain ⟨⟨l⟩, rfl, hsz⟩ := okWide_struct Try.underlying40 hv
  obtain ⟨fuel, hf⟩ := h
  obtain ⟨t, e, hw⟩ := trod_pc (by simpa [Value.cells] using hsz.trans cellsPc) hf
  simp [Value.cells] at e
  exact ⟨t, by rw [e], hw⟩
/-- what is known of a desk that came in -/
structure DeskIn (W : World) (b : Ne.Bo) (ps : List Ne.Pa) (pl : List Ne.Pc) (fA : Option Addr) (fC : Nat) (pA : Option Addr) (pC : Nat) (lA : Option Addr) (lC : Nat) : Prop where
  f : Rows Ne.rcL 4 W fA b.fs
  p : Ne.PaM W pA ps
  l : Rows Ne.pcL 4 W lA pl
  fc : b.fs.length ≤ fC ∧ fC ≤ maxLen
  pc : ps.length ≤ pC ∧ pC ≤ maxLen
  lc : pl.length ≤ lC ∧ lC ≤ maxLen
  ok : ∀ q, q ∈ pl → OkPc q
  bw : W64 b.w ∧ W64 b.h ∧ W64 b.g
  nl : lA = none → lC = 0
theorem open_desk {base : Nat} {v : Value} {d : DataW H} {p : List MemPlace} (hv : Value.okWide Try.prog W .any base 37 v) (h : DataW.Trod enc Try.prog W 0 (fun _ => true) true 37 v d p) :
    ∃ (b : Ne.Bo) (ps : List Ne.Pa) (pl : List Ne.Pc) (fA : Option Addr) (fC : Nat) (pA : Option Addr) (pC : Nat) (lA : Option Addr) (lC : Nat), v = .agg #[.int .i64 b.w, .int .i64 b.h, .int .i64 b.g, .slice fA b.fs.length fC, .slice pA ps.length pC, .slice lA pl.length lC] ∧ DeskIn W b ps pl fA fC pA pC lA lC := by
  obtain ⟨⟨l⟩, rfl, hsz⟩ := okWide_struct Try.underlying37 hv
  obtain ⟨fuel, hf⟩ := h
  have hl : l.length = 6 := by simpa [Value.cells] using hsz.trans cellsDk
  simp [Value.cells] at hf
  match l, hl with
  | [c0, c1, c2, c3, c4, c5], _ =>
    obtain ⟨xs, n, _, _, _, hlen, hg⟩ := DataW.trod_struct Try.underlying37 hf
    match xs, hlen with
    | [y0, y1, y2], _ =>
      have g0 := hg 0 _ rfl
      have g1 := hg 1 _ rfl
      have g2 := hg 2 _ rfl
      simp [cellsBo, cellsPs, cellsLs] at g0 g1 g2
      obtain ⟨xs', n', _, _, _, hlen', hg'⟩ := DataW.trod_struct Try.underlying33 g0
      match xs', hlen' with
      | [z0, z1, z2, z3], _ =>
        have k0 := hg' 0 _ rfl
        have k1 := hg' 1 _ rfl
        have k2 := hg' 2 _ rfl
        have k3 := hg' 3 _ rfl
        simp [cells3', cellsRs] at k0 k1 k2 k3
        obtain ⟨bw, e0, w0⟩ := trod_one k0
        obtain ⟨bh, e1, w1⟩ := trod_one k1
        obtain ⟨bg, e2, w2⟩ := trod_one k2
        cases e0; cases e1; cases e2
        have sl : ∀ {t e : TypeId} {c : Value} {f : Nat} {x : DataW H × List MemPlace}, Try.prog.underlying t = some (.slice e) → DataW.trod enc Try.prog W 0 (fun _ => true) true f t [c] = some x → ∃ A n m, c = .slice A n m := by
          intro t e c f x ht hh
          rcases open_slice ht hh with ⟨hcs, _⟩ | ⟨a, len', cap', m, n, D, P, hcs, _⟩
          · simp at hcs; exact ⟨_, _, _, hcs⟩
          · simp at hcs; exact ⟨_, _, _, hcs⟩
        obtain ⟨fA, fn, fC, rfl⟩ := sl Try.underlying31 k3
        obtain ⟨pA, pn, pC, rfl⟩ := sl Try.underlying34 g1
        obtain ⟨lA, ln, lC, rfl⟩ := sl Try.underlying35 g2
        have hnl : lA = none → lC = 0 := by
          rcases open_slice Try.underlying35 g2 with ⟨hcs, _⟩ | ⟨a, len', cap', m, n, D, P, hcs, _⟩
          · simp at hcs; exact fun _ => hcs.2.2
          · simp at hcs; intro h; rw [hcs.1] at h; cases h
        obtain ⟨fs, rfl, a1, a2, a3, _⟩ := open_rows Try.underlying31 cellsRc Ne.encRc (fun f cs x hl h => trod_rc hl h) k3
        obtain ⟨ps, rfl, b1, b2, b3⟩ := open_pas g1
        obtain ⟨pl, rfl, d1, d2, d3, d4⟩ := open_rows Try.underlying35 cellsPc Ne.encPc (fun f cs x hl h => trod_pc hl h) g2
        exact ⟨⟨bw, bh, bg, fs⟩, ps, pl, fA, fC, pA, pC, lA, lC, rfl, ⟨a1, b1, d1, ⟨a2, a3⟩, ⟨b2, b3⟩, ⟨d2, d3⟩, d4, ⟨w0, w1, w2⟩, hnl⟩⟩
end
theorem u8_nat {x : Int} (h : (Lit.int .u8 x).wf = true) : ∃ n : Nat, n ≤ 255 ∧ x = n := by
  simp [Lit.wf, IntKind.min, IntKind.max, IntKind.signed, IntKind.bits] at h
  exact ⟨x.toNat, by omega, by omega⟩

end Go.Proofs.Ytlikmlhlfbdchaa
