/- Plain: the table of the document's Fewest: at a Dark and a Grain, the row of the batches that have them, and one more. -/
import Derived.Test.YtlfbfdhdkccaeaaP3
namespace Go.Proofs.Ytlfbfdhdkccaeaa.Pl

/-- a batch of row j has this Dark and Grain -/
def hasDG (l : List Bt) (d g : Int) (j : Nat) : Bool := (row l l.length j).any fun i => decide ((at' l i).dark = d) && decide ((at' l i).grain = g)
def val (l : List Bt) (d g : Int) : Nat := match (List.range (nr l)).find? (hasDG l d g) with
  | none => 0
  | some j => j + 1
theorem hasDG_iff {l : List Bt} {d g : Int} {j : Nat} : hasDG l d g j = true ↔ ∃ i, i ∈ row l l.length j ∧ (at' l i).dark = d ∧ (at' l i).grain = g := by
  unfold hasDG
  rw [List.any_eq_true]
  simp only [Bool.and_eq_true, decide_eq_true_eq]
/-- batches of one Dark and Grain are in one row -/
theorem one_row {l : List Bt} (h : Ok l) {i i' j j' : Nat} (hi : i ∈ row l l.length j) (hi' : i' ∈ row l l.length j') (hd : (at' l i).dark = (at' l i').dark) (hg : (at' l i).grain = (at' l i').grain) : j ≤ j' := by
  rcases Nat.eq_zero_or_pos j with rfl | h0
  · exact Nat.zero_le _
  · obtain ⟨p, _, hpm, h1, h2⟩ := (gd h).bs i j h0 hi
    have := (gd h).up p i' (j - 1) j' hpm hi' (by omega) (by omega)
    omega
theorem val_some {l : List Bt} (h : Ok l) {i j : Nat} (hi : i ∈ row l l.length j) : val l (at' l i).dark (at' l i).grain = j + 1 := by
  unfold val
  have hj : j < nr l := row_lt hi
  cases hf : (List.range (nr l)).find? (hasDG l (at' l i).dark (at' l i).grain) with
  | none =>
    rw [List.find?_eq_none] at hf
    exact absurd (hasDG_iff.2 ⟨i, hi, rfl, rfl⟩) (hf j (List.mem_range.2 hj))
  | some j' =>
    obtain ⟨i', hi', hd, hg⟩ := hasDG_iff.1 (List.find?_some hf)
    have h1 := one_row h hi hi' hd.symm hg.symm
    have h2 := one_row h hi' hi hd hg
    show j' + 1 = j + 1
    omega
theorem val_none {l : List Bt} {d g : Int} (h : Ok l) (hn : ∀ i, i < l.length → ¬ ((at' l i).dark = d ∧ (at' l i).grain = g)) : val l d g = 0 := by
  unfold val
  cases hf : (List.range (nr l)).find? (hasDG l d g) with
  | none => rfl
  | some j' =>
    obtain ⟨i', hi', hd, hg⟩ := hasDG_iff.1 (List.find?_some hf)
    exact absurd ⟨hd, hg⟩ (hn i' (row_idx h hi'))
theorem val_cases {l : List Bt} (h : Ok l) (d g : Int) : val l d g = 0 ∨ ∃ i j, i ∈ row l l.length j ∧ (at' l i).dark = d ∧ (at' l i).grain = g ∧ val l d g = j + 1 := by
  by_cases c : ∃ i, i < l.length ∧ (at' l i).dark = d ∧ (at' l i).grain = g
  · obtain ⟨i, hi, rfl, rfl⟩ := c
    obtain ⟨j, _, hm⟩ := every h hi
    exact .inr ⟨i, j, hm, rfl, rfl, val_some h hm⟩
  · exact .inl (val_none h (fun i hi hh => c ⟨i, hi, hh⟩))
/-- what stands before it, darker and coarser apart, is less -/
theorem val_up {l : List Bt} (h : Ok l) {i j : Nat} (hi : i ∈ row l l.length j) {d g : Int} (hd : d < (at' l i).dark) (hg : (at' l i).grain < g) : val l d g ≤ j := by
  rcases val_cases h d g with e | ⟨i', j', hi', rfl, rfl, e⟩
  · omega
  · have := (gd h).up i' i j' j hi' hi hd hg
    omega
/-- and one of them is one less -/
theorem val_bs {l : List Bt} (h : Ok l) {i j : Nat} (hi : i ∈ row l l.length j) (h0 : 0 < j) : ∃ p, p < l.length ∧ (at' l p).dark < (at' l i).dark ∧ (at' l i).grain < (at' l p).grain ∧ val l (at' l p).dark (at' l p).grain = j := by
  obtain ⟨p, _, hpm, h1, h2⟩ := (gd h).bs i j h0 hi
  exact ⟨p, row_idx h hpm, h1, h2, by rw [val_some h hpm]; omega⟩
theorem val_le {l : List Bt} (h : Ok l) (d g : Int) : val l d g ≤ nr l := by
  rcases val_cases h d g with e | ⟨i', j', hi', _, _, e⟩
  · omega
  · have : j' < nr l := row_lt hi'
    omega
theorem val_max {l : List Bt} (h : Ok l) (h0 : 0 < nr l) : ∃ i, i < l.length ∧ val l (at' l i).dark (at' l i).grain = nr l := by
  have hm := lst_mem ((gd h).ne (nr l - 1) (show nr l - 1 < nr l by omega))
  exact ⟨_, row_idx h hm, by rw [val_some h hm]; omega⟩
/-- what the inner loops find: between 1 and j + 1, and more than each value that stands before it, is j + 1 -/
theorem val_loop {l : List Bt} (h : Ok l) {i j : Nat} (hi : i ∈ row l l.length j) {N : Nat} (h1 : 1 ≤ N) (h2 : N ≤ j + 1) (h3 : ∀ d g : Int, 0 ≤ d → d < (at' l i).dark → (at' l i).grain < g → g ≤ 9 → val l d g + 1 ≤ N)
    (hv : ∀ p, p < l.length → 0 ≤ (at' l p).dark ∧ (at' l p).grain ≤ 9) : N = j + 1 := by
  rcases Nat.eq_zero_or_pos j with rfl | h0
  · omega
  · obtain ⟨p, hp, hd, hg, e⟩ := val_bs h hi h0
    have := h3 _ _ (hv p hp).1 hd hg (hv p hp).2
    omega
end Go.Proofs.Ytlfbfdhdkccaeaa.Pl
