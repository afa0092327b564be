/- Check, of the document. -/
import Derived.Test.YtlfbfdhdkccaeaaGreatD2
import Derived.Test.YtlfbfdhdkccaeaaGreatK1
import Derived.Test.YtlfbfdhdkccaeaaGreatPZ
namespace Go.Proofs.YtlfbfdhdkccaeaaGreat
open Go.RowKit Go.Shelf Go.Sort

theorem Pl.nd_le {n : Nat} {f : List Int} (hd : f.Nodup) (hi : ∀ x, x ∈ f → 0 ≤ x ∧ x < (n : Int)) : f.length ≤ n := by
  have hs : ∀ x, x ∈ f → x ∈ (List.range n).map (fun q : Nat => (q : Int)) := by
    intro x hx
    obtain ⟨h0, h1⟩ := hi x hx
    exact List.mem_map.2 ⟨x.toNat, List.mem_range.2 (by omega), by omega⟩
  have := List.Nodup.length_le_of_subset hd (l₂ := (List.range n).map (fun q : Nat => (q : Int))) (fun x hx => hs x hx)
  simpa using this
theorem Pl.emp_succ {rows : List (List Int)} {k : Nat} (hk : k < rows.length) : Pl.emp (rows.take (k + 1)) = (Pl.emp (rows.take k) || decide ((rows.getD k []).length = 0)) := by
  unfold Pl.emp
  rw [List.take_succ_eq_append_getElem hk, List.any_append, List.getD_eq_getElem?_getD, List.getElem?_eq_getElem hk]
  simp
/-- a row of a slice of slices -/
theorem rr_row {w : World} {A : Option Addr} {rows : List (List Int)} (h : RR inL 1 w A rows) {k : Nat} (hk : k < rows.length) :
    ∃ b off, A = some ⟨b, off, none⟩ ∧ b < w.heap.size ∧ ∃ A' c', w.cell? ⟨b, off + k, none⟩ = some (.slice A' (rows.getD k []).length c') ∧ Rows inL 1 w A' (rows.getD k []) ∧ (rows.getD k []).length ≤ c' ∧ c' ≤ maxLen := by
  obtain ⟨b, off, h1, h2, h3⟩ := h.open (by omega)
  exact ⟨b, off, h1, h2, h3 k hk⟩

end Go.Proofs.YtlfbfdhdkccaeaaGreat

