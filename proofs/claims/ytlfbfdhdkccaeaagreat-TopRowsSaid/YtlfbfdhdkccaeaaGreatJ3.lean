/- The end of runs, of the program (slices.MaxFunc) and of the document. -/
import Derived.Test.YtlfbfdhdkccaeaaGreatJ2
import Derived.Test.YtlfbfdhdkccaeaaGreatS1
import Derived.Test.YtlfbfdhdkccaeaaGreatPZ
import Derived.Laws.Tables
namespace Go.Proofs.YtlfbfdhdkccaeaaGreat
open Go.RowKit Go.Shelf Go.Sort

/-- the greatest end of some runs -/
def Pl.Mx (D : List Pl.Rn) (e : Int) : Prop := (D = [] ∧ e = 0) ∨ ((∃ r, r ∈ D ∧ r.t = e) ∧ ∀ r, r ∈ D → r.t ≤ e)
theorem Pl.Mx.snoc {D : List Pl.Rn} {e : Int} (h : Pl.Mx D e) (r : Pl.Rn) : Pl.Mx (D ++ [r]) (if D = [] ∨ e < r.t then r.t else e) := by
  rcases h with ⟨rfl, rfl⟩ | ⟨⟨q, h1, h2⟩, h3⟩
  · rw [if_pos (.inl rfl)]
    exact .inr ⟨⟨r, by simp, rfl⟩, fun y hy => by simp at hy; rw [hy]; exact Int.le_refl _⟩
  · have hne : ¬ D = [] := fun h => by rw [h] at h1; exact absurd h1 List.not_mem_nil
    refine .inr ?_
    by_cases c : e < r.t
    · rw [if_pos (.inr c)]
      refine ⟨⟨r, by simp, rfl⟩, fun y hy => ?_⟩
      rcases List.mem_append.1 hy with h | h
      · have := h3 y h; omega
      · rw [List.mem_singleton.1 h]; exact Int.le_refl _
    · rw [if_neg (by rintro (h | h); exact hne h; exact c h)]
      refine ⟨⟨q, List.mem_append_left _ h1, h2⟩, fun y hy => ?_⟩
      rcases List.mem_append.1 hy with h | h
      · exact h3 y h
      · rw [List.mem_singleton.1 h]; omega
/-- what End answers -/
def Pl.EndR (runs : List (List Pl.Rn)) (v e : Int) : Prop := if Pl.cwd runs = true then v = 0 ∧ e = 2 else e = 0 ∧ Pl.IsEnd runs v
theorem Pl.EndR.uniq {runs : List (List Pl.Rn)} {v e v' e' : Int} (h : Pl.EndR runs v e) (h' : Pl.EndR runs v' e') : v = v' ∧ e = e' := by
  unfold Pl.EndR at h h'
  split at h
  · rename_i c
    rw [if_pos c] at h'
    omega
  · rename_i c
    rw [if_neg c] at h'
    exact ⟨h.2.uniq h'.2, by omega⟩
/-- the first k barrels, and j runs of the next -/
def Pl.fr (runs : List (List Pl.Rn)) (k j : Nat) : List Pl.Rn := (runs.take k).flatten ++ (runs.getD k []).take j
theorem Pl.fr_zero (runs : List (List Pl.Rn)) : Pl.fr runs 0 0 = [] := by simp [Pl.fr]
theorem Pl.fr_succ {runs : List (List Pl.Rn)} {k j : Nat} (hj : j < (runs.getD k []).length) : Pl.fr runs k (j + 1) = Pl.fr runs k j ++ [(runs.getD k []).getD j Pl.zr] := by
  unfold Pl.fr
  rw [List.take_succ_eq_append_getElem hj, ← List.append_assoc, List.getD_eq_getElem?_getD (l := runs.getD k []), List.getElem?_eq_getElem hj]; rfl
theorem Pl.fr_next {runs : List (List Pl.Rn)} {k : Nat} (hk : k < runs.length) : Pl.fr runs k (runs.getD k []).length = Pl.fr runs (k + 1) 0 := by
  unfold Pl.fr
  rw [List.take_length, Pl.tk_succ hk, List.take_zero, List.append_nil]
theorem Pl.fr_end (runs : List (List Pl.Rn)) : Pl.fr runs runs.length 0 = runs.flatten := by simp [Pl.fr]

set_option maxRecDepth 100000 in
theorem endc_b (r s : Pl.Rn) (w : World) :
    Calls Tryz.prog 32 #[.agg (rnA r), .agg (rnA s)] w fun e w' => e = .returned (.int .i64 (Pl.cmpI r.t s.t)) ∧ Below w.heap.size w w' := by
  have hB := ((Below.refl w.heap.size w).alloc (Nat.le_refl _) (.cells (rnA r) 60)).alloc (by simp) (.cells (rnA s) 60)
  have bA := (Blk.new w 60 (rnA r)).alloc (.cells (rnA s) 60)
  have bB := Blk.new (w.alloc (.cells (rnA r) 60)) 60 (rnA s)
  simp only [World.size_alloc] at bB
  have q0 := bA.cell 2
  have q1 := bB.cell 2
  clear bA bB
  go_enter Tryz.func32, Tryz.ntmps32
  go_wp2_with fail
  refine (cmp_any r.t s.t _).mono ?_
  rintro e w2 ⟨rfl, rfl⟩
  go_wp2
  go_ret
  exact ⟨rfl, hB⟩
end Go.Proofs.YtlfbfdhdkccaeaaGreat

