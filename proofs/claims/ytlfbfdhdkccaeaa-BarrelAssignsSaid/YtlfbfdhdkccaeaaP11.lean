/- Plain: what Check answers about rows that came in. -/
import Derived.Test.YtlfbfdhdkccaeaaP6
namespace Go.Proofs.Ytlfbfdhdkccaeaa.Pl

/-- an element of the row is no index -/
def nix (n : Nat) (row : List Int) : Bool := row.any fun x => !decide (0 ≤ x ∧ x < (n : Int))
/-- a batch may not follow the one in front of it -/
def dty (l : List Bt) (row : List Int) : Bool := !decide (∀ k, k < row.length → 0 < k → may (bx l row (k - 1)) (bx l row k) = true)
/-- each index is there -/
def cov (n : Nat) (f : List Int) : Bool := decide (∀ q : Nat, q < n → (q : Int) ∈ f)
/-- a row is empty -/
def emp (rows : List (List Int)) : Bool := rows.any fun r => decide (r.length = 0)
/-- the first k rows, and some elements of the next -/
def fl (rows : List (List Int)) (k : Nat) : List Int := (rows.take k).flatten
def ckR (l : List Bt) (rows : List (List Int)) : Int :=
  if rows.any (nix l.length) = true then 2 else if ¬ rows.flatten.Nodup then 43 else if rows.any (dty l) = true then 61 else if cov l.length rows.flatten = false ∨ emp rows = true then 4 else 0
def ckE (l : List Bt) (rows : List (List Int)) : Int := if vs l = true then ckR l rows else 60
theorem ckE_no {l : List Bt} {rows : List (List Int)} (h : vs l = false) : ckE l rows = 60 := if_neg (by rw [h]; simp)
theorem ckE_ok {l : List Bt} {rows : List (List Int)} (h : vs l = true) : ckE l rows = ckR l rows := if_pos h
variable {α : Type}
theorem any_all {p : List Int → Bool} {rows : List (List Int)} (h : ∀ i, i < rows.length → p (rows.getD i []) = false) : rows.any p = false := by
  rw [List.any_eq_false]
  intro r hr
  obtain ⟨i, hi, rfl⟩ := List.getElem_of_mem hr
  have := h i hi
  rw [List.getD_eq_getElem?_getD, List.getElem?_eq_getElem hi] at this
  simpa using this
theorem any_one {p : List Int → Bool} {rows : List (List Int)} {i : Nat} (hi : i < rows.length) (h : p (rows.getD i []) = true) : rows.any p = true := by
  rw [List.any_eq_true]
  refine ⟨rows.getD i [], ?_, h⟩
  rw [List.getD_eq_getElem?_getD, List.getElem?_eq_getElem hi]
  exact List.getElem_mem hi
theorem nix_all {n : Nat} {row : List Int} (h : ∀ (i : Nat) (hi : i < row.length), decide (0 ≤ row[i] ∧ row[i] < (n : Int)) = true) : nix n row = false := by
  unfold nix
  rw [List.any_eq_false]
  intro r hr
  obtain ⟨i, hi, rfl⟩ := List.getElem_of_mem hr
  rw [h i hi]; simp
theorem nix_one {n : Nat} {row : List Int} {i : Nat} (hi : i < row.length) (h : decide (0 ≤ row[i] ∧ row[i] < (n : Int)) = false) : nix n row = true := by
  unfold nix
  rw [List.any_eq_true]
  exact ⟨row[i], List.getElem_mem hi, by rw [h]; rfl⟩
theorem fl_zero (rows : List (List Int)) : fl rows 0 = [] := rfl
theorem fl_succ {rows : List (List Int)} {k : Nat} (hk : k < rows.length) : fl rows (k + 1) = fl rows k ++ rows.getD k [] := by
  unfold fl
  rw [List.take_succ_eq_append_getElem hk, List.flatten_append, List.getD_eq_getElem?_getD, List.getElem?_eq_getElem hk]
  simp
theorem fl_all (rows : List (List Int)) : fl rows rows.length = rows.flatten := by unfold fl; rw [List.take_length]
theorem fl_pre {rows : List (List Int)} (k : Nat) : List.Sublist (fl rows k) rows.flatten := by
  have h : rows.flatten = fl rows k ++ (rows.drop k).flatten := by
    unfold fl; rw [← List.flatten_append, List.take_append_drop]
  rw [h]; exact List.sublist_append_left _ _
theorem fl_nodup {rows : List (List Int)} (h : rows.flatten.Nodup) (k : Nat) : (fl rows k).Nodup := h.sublist (fl_pre k)
theorem take_nodup {a row : List Int} (j : Nat) (h : (a ++ row).Nodup) : (a ++ row.take j).Nodup :=
  h.sublist (List.Sublist.append (List.Sublist.refl _) (List.take_sublist _ _))
theorem nodup_snoc {a : List Int} {x : Int} : (a ++ [x]).Nodup ↔ a.Nodup ∧ x ∉ a := by
  rw [List.nodup_append]
  constructor
  · rintro ⟨h1, _, h3⟩
    exact ⟨h1, fun h => h3 x h x (List.mem_singleton.2 rfl) rfl⟩
  · rintro ⟨h1, h2⟩
    refine ⟨h1, by simp, fun a ha b hb e => ?_⟩
    rw [List.mem_singleton] at hb
    subst hb; subst e; exact h2 ha
theorem dty_no {l : List Bt} {row : List Int} (h : ∀ k, k < row.length → 0 < k → may (bx l row (k - 1)) (bx l row k) = true) : dty l row = false := by
  unfold dty; rw [decide_eq_true h]; rfl
theorem dty_yes {l : List Bt} {row : List Int} {k : Nat} (hk : k < row.length) (h0 : 0 < k) (h : may (bx l row (k - 1)) (bx l row k) = false) : dty l row = true := by
  unfold dty
  rw [decide_eq_false (fun h' => by rw [h' k hk h0] at h; cases h)]; rfl
/-- a list of different indexes that are below n, and that has n of them, has them all; and one that has fewer has not -/
theorem cov_len {n : Nat} {f : List Int} (hd : f.Nodup) (hi : ∀ x, x ∈ f → 0 ≤ x ∧ x < (n : Int)) : cov n f = decide (n ≤ f.length) := by
  unfold cov
  rw [decide_eq_decide]
  have hrd : ((List.range n).map (fun q : Nat => (q : Int))).Nodup := by
    rw [List.Nodup, List.pairwise_map]
    exact (List.nodup_range (n := n)).imp (fun {a b} h e => h (by omega))
  have hrl : ((List.range n).map (fun q : Nat => (q : Int))).length = n := by simp
  constructor
  · intro h
    have hs : ∀ x, x ∈ (List.range n).map (fun q : Nat => (q : Int)) → x ∈ f := by
      intro x hx
      obtain ⟨q, hq, rfl⟩ := List.mem_map.1 hx
      exact h q (List.mem_range.1 hq)
    have := List.Nodup.length_le_of_subset hrd (fun x hx => hs x hx)
    rw [hrl] at this; exact this
  · intro h q hq
    have hs : ∀ x, x ∈ f → x ∈ (List.range n).map (fun q : Nat => (q : Int)) := by
      intro x hx
      obtain ⟨h0, h1⟩ := hi x hx
      exact List.mem_map.2 ⟨x.toNat, List.mem_range.2 (by omega), by omega⟩
    by_cases hq' : (q : Int) ∈ f
    · exact hq'
    · have hd2 : ((q : Int) :: f).Nodup := List.nodup_cons.2 ⟨hq', hd⟩
      have := List.Nodup.length_le_of_subset hd2 (l₂ := (List.range n).map (fun q : Nat => (q : Int))) (fun x hx => by
        rcases List.mem_cons.1 hx with rfl | hx
        · exact List.mem_map.2 ⟨q, List.mem_range.2 hq, rfl⟩
        · exact hs x hx)
      rw [hrl, List.length_cons] at this
      omega
theorem nix_mem {n : Nat} {rows : List (List Int)} (h : rows.any (nix n) = false) : ∀ x, x ∈ rows.flatten → 0 ≤ x ∧ x < (n : Int) := by
  intro x hx
  obtain ⟨r, hr, hxr⟩ := List.mem_flatten.1 hx
  have h1 := List.any_eq_false.1 h r hr
  have h2 : nix n r = false := by simpa using h1
  have h3 := List.any_eq_false.1 h2 x hxr
  simpa using h3
theorem row_mem {rows : List (List Int)} {i : Nat} (hi : i < rows.length) {x : Int} (h : x ∈ rows.getD i []) : x ∈ rows.flatten := by
  rw [List.getD_eq_getElem?_getD, List.getElem?_eq_getElem hi] at h
  exact List.mem_flatten.2 ⟨_, List.getElem_mem hi, h⟩
end Go.Proofs.Ytlfbfdhdkccaeaa.Pl
