import Derived.Test.YtlikmlhlfbdchaaOpen
namespace Go.Proofs.Ytlikmlhlfbdchaa
open Go.ChangeShapes Go.WideShapes Go.ChangeAt Go.RowKit Go.Deep Go.Joins

/-- a slice of places that came in: nil, or it leads to a row of cells -/
theorem open_ptsC {H : Type} {enc : TypeId × Value → H} {W : World} {a0 : Option Addr} {len cap : Nat} {d : DataW H} {p : List MemPlace}
    (h : DataW.Trod enc Try.prog W 0 (fun _ => true) true 22 (.slice a0 len cap) d p) :
    ∃ l : List Geo.XY, l.length = len ∧ Pts W a0 l ∧ l.length ≤ cap := by
  obtain ⟨fuel, hf⟩ := h
  rcases open_slice_pairs Try.underlying22 Try.underlying76 cells38 rfl rfl cells3 cells3 hf with ⟨hcs, _⟩ | ⟨a, len', cap', m, n, V0, V1, D0, D1, P0, P1, hcs, hb, hl, hm, hmm, hx, hc⟩
  · simp [Value.cells] at hcs
    obtain ⟨rfl, rfl, rfl⟩ := hcs
    exact ⟨[], rfl, .inl rfl, Nat.zero_le _⟩
  · simp [Value.cells] at hcs
    obtain ⟨rfl, rfl, rfl⟩ := hcs
    have hmm' : m = cap := by simpa using hmm
    refine ⟨lstOf V0 V1 len, lstOf_length _ _ _, ?_, by rw [lstOf_length]; omega⟩
    by_cases h0 : len = 0
    · subst h0; exact .inl rfl
    · right
      have hint : ∀ i, i < len → V0 i = .int .i64 (intOf (V0 i)) ∧ V1 i = .int .i64 (intOf (V1 i)) := by
        intro i hi
        obtain ⟨_, _, t0, t1⟩ := hc i (by omega)
        obtain ⟨q0, e0, _, _⟩ := DataW.trod_int (k := .i64) Try.underlying3 t0
        obtain ⟨q1, e1, _, _⟩ := DataW.trod_int (k := .i64) Try.underlying3 t1
        simp at e0 e1
        rw [e0, e1]
        exact ⟨rfl, rfl⟩
      obtain ⟨b, off, spot⟩ := a
      have hc0 := (hc 0 (by omega)).1
      have hspot : spot = none := by simpa [Addr.add] using World.cell?_spot hc0
      subst hspot
      refine ⟨b, off, rfl, ?_, fun k hk => ?_⟩
      · have := World.block_lt_of_cell? W _ hc0
        simpa [Addr.add] using this
      · rw [lstOf_length] at hk
        obtain ⟨g0, g1, _, _⟩ := hc k (by omega)
        rw [Go.WideShapes.add_plain] at g0 g1
        rw [lstOf_get _ _ _ _ hk]
        obtain ⟨i0, i1⟩ := hint k hk
        exact ⟨by rw [g0, i0]; rfl, by rw [← Nat.add_assoc] at g1; rw [g1, i1]; rfl⟩

end Go.Proofs.Ytlikmlhlfbdchaa
