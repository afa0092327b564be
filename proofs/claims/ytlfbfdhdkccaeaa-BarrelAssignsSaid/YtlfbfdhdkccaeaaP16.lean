/- Plain: what Judge answers about runs of barrels. -/
import Derived.Test.YtlfbfdhdkccaeaaP15
namespace Go.Proofs.Ytlfbfdhdkccaeaa.Pl

/-- the batches of the first k barrels, and of the first j runs of the next -/
def db (runs : List (List Rn)) (k j : Nat) : List Int := ((runs.take k).flatten ++ (runs.getD k []).take j).map (·.b)
/-- what is wrong with run j of a barrel, when some batches are done -/
def jr (l : List Bt) (cl : Int) (done : List Int) (list : List Rn) (j : Nat) : Int :=
  if ¬ ((0 ≤ (list.getD j zr).b ∧ (list.getD j zr).b < (l.length : Int)) ∧ 0 ≤ (list.getD j zr).f) then 2
  else if (list.getD j zr).b ∈ done then 43
  else if (0 < j ∧ (list.getD j zr).f < (list.getD (j - 1) zr).t) ∨ er (at' l (list.getD j zr).b.toNat) (list.getD j zr) cl = false then 73
  else if (list.getD j zr).c = false ∧ (j = 0 ∨ may (at' l (list.getD (j - 1) zr).b.toNat) (at' l (list.getD j zr).b.toNat) = false) then 61
  else 0
def je (l : List Bt) (cl : Int) (runs : List (List Rn)) (k j : Nat) : Int := jr l cl (db runs k j) (runs.getD k []) j
/-- the runs in front of run j of barrel k are right -/
def Jok (l : List Bt) (cl : Int) (runs : List (List Rn)) (k j : Nat) : Prop := ∀ k' j', k' < runs.length → j' < (runs.getD k' []).length → (k' < k ∨ k' = k ∧ j' < j) → je l cl runs k' j' = 0
/-- too many barrels or runs -/
def cwd (runs : List (List Rn)) : Bool := decide (8 < runs.length) || runs.any fun r => decide (100 < r.length)
/-- what Judge answers -/
def IsJ (l : List Bt) (cl : Int) (runs : List (List Rn)) (a b e : Int) : Prop :=
  if vs l = true then
    if inB 0 cl 100 = true ∧ cwd runs = false then
      (∃ k j : Nat, k < runs.length ∧ j < (runs.getD k []).length ∧ Jok l cl runs k j ∧ je l cl runs k j ≠ 0 ∧ a = k ∧ b = j ∧ e = je l cl runs k j) ∨
      (Jok l cl runs runs.length 0 ∧ a = 0 ∧ b = 0 ∧ e = if cov l.length (runs.flatten.map (·.b)) = true then 0 else 4)
    else a = 0 ∧ b = 0 ∧ e = 2
  else a = 0 ∧ b = 0 ∧ e = 60
theorem IsJ.uniq {l : List Bt} {cl : Int} {runs : List (List Rn)} {a b e a' b' e' : Int} (h : IsJ l cl runs a b e) (h' : IsJ l cl runs a' b' e') : a = a' ∧ b = b' ∧ e = e' := by
  unfold IsJ at h h'
  split at h
  · rename_i hv
    rw [if_pos hv] at h'
    split at h
    · rename_i hc
      rw [if_pos hc] at h'
      rcases h with ⟨k, j, h1, h2, h3, h4, h5, h6, h7⟩ | ⟨h3, h5, h6, h7⟩
      · rcases h' with ⟨k', j', g1, g2, g3, g4, g5, g6, g7⟩ | ⟨g3, g5, g6, g7⟩
        · have hk : k = k' := by
            rcases Nat.lt_trichotomy k k' with c | c | c
            · exact absurd (g3 k j h1 h2 (.inl c)) h4
            · exact c
            · exact absurd (h3 k' j' g1 g2 (.inl c)) g4
          subst hk
          have hj : j = j' := by
            rcases Nat.lt_trichotomy j j' with c | c | c
            · exact absurd (g3 k j h1 h2 (.inr ⟨rfl, c⟩)) h4
            · exact c
            · exact absurd (h3 k j' g1 g2 (.inr ⟨rfl, c⟩)) g4
          subst hj
          exact ⟨by omega, by omega, by omega⟩
        · exact absurd (g3 k j h1 h2 (.inl h1)) h4
      · rcases h' with ⟨k', j', g1, g2, g3, g4, g5, g6, g7⟩ | ⟨g3, g5, g6, g7⟩
        · exact absurd (h3 k' j' g1 g2 (.inl g1)) g4
        · exact ⟨by omega, by omega, by rw [h7, g7]⟩
    · rename_i hc
      rw [if_neg hc] at h'
      omega
  · rename_i hv
    rw [if_neg hv] at h'
    omega
theorem isJ_no {l : List Bt} {cl : Int} {runs : List (List Rn)} (h : vs l = false) : IsJ l cl runs 0 0 60 := by unfold IsJ; rw [if_neg (by rw [h]; simp)]; exact ⟨rfl, rfl, rfl⟩
theorem isJ_bad {l : List Bt} {cl : Int} {runs : List (List Rn)} (h : vs l = true) (h2 : ¬ (inB 0 cl 100 = true ∧ cwd runs = false)) : IsJ l cl runs 0 0 2 := by unfold IsJ; rw [if_pos h, if_neg h2]; exact ⟨rfl, rfl, rfl⟩
theorem isJ_at {l : List Bt} {cl : Int} {runs : List (List Rn)} (h : vs l = true) (h2 : inB 0 cl 100 = true ∧ cwd runs = false) {k j : Nat} (hk : k < runs.length) (hj : j < (runs.getD k []).length) (h3 : Jok l cl runs k j) {e : Int} (he : je l cl runs k j = e) (h4 : e ≠ 0) : IsJ l cl runs k j e := by
  subst he
  unfold IsJ; rw [if_pos h, if_pos h2]; exact .inl ⟨k, j, hk, hj, h3, h4, rfl, rfl, rfl⟩
theorem isJ_end {l : List Bt} {cl : Int} {runs : List (List Rn)} (h : vs l = true) (h2 : inB 0 cl 100 = true ∧ cwd runs = false) (h3 : Jok l cl runs runs.length 0) {e : Int} (he : (if cov l.length (runs.flatten.map (·.b)) = true then 0 else 4) = e) : IsJ l cl runs 0 0 e := by
  unfold IsJ; rw [if_pos h, if_pos h2]; exact .inr ⟨h3, rfl, rfl, he.symm⟩
theorem Jok.zero {l : List Bt} {cl : Int} {runs : List (List Rn)} : Jok l cl runs 0 0 := fun k' j' _ _ h => by omega
theorem Jok.step {l : List Bt} {cl : Int} {runs : List (List Rn)} {k j : Nat} (h : Jok l cl runs k j) (he : je l cl runs k j = 0) : Jok l cl runs k (j + 1) := fun k' j' h1 h2 h3 => by
  rcases h3 with h3 | ⟨rfl, h3⟩
  · exact h k' j' h1 h2 (.inl h3)
  · rcases Nat.lt_succ_iff_lt_or_eq.1 h3 with h4 | rfl
    · exact h k' j' h1 h2 (.inr ⟨rfl, h4⟩)
    · exact he
theorem Jok.next {l : List Bt} {cl : Int} {runs : List (List Rn)} {k j : Nat} (h : Jok l cl runs k j) (hj : (runs.getD k []).length ≤ j) : Jok l cl runs (k + 1) 0 := fun k' j' h1 h2 h3 => by
  rcases h3 with h3 | ⟨rfl, h3⟩
  · rcases Nat.lt_succ_iff_lt_or_eq.1 h3 with h4 | rfl
    · exact h k' j' h1 h2 (.inl h4)
    · exact h k' j' h1 h2 (.inr ⟨rfl, by omega⟩)
  · omega
theorem db_zero (runs : List (List Rn)) : db runs 0 0 = [] := by simp [db]
theorem db_succ {runs : List (List Rn)} {k j : Nat} (hj : j < (runs.getD k []).length) : db runs k (j + 1) = db runs k j ++ [((runs.getD k []).getD j zr).b] := by
  unfold db
  rw [List.take_succ_eq_append_getElem hj, ← List.append_assoc, List.map_append, List.getD_eq_getElem?_getD (l := runs.getD k []), List.getElem?_eq_getElem hj]; rfl
theorem db_next {runs : List (List Rn)} {k j : Nat} (hk : k < runs.length) (hj : (runs.getD k []).length ≤ j) : db runs k j = db runs (k + 1) 0 := by
  unfold db
  rw [List.take_of_length_le hj, List.take_succ_eq_append_getElem hk, List.flatten_append, List.getD_eq_getElem?_getD, List.getElem?_eq_getElem hk]
  simp
theorem db_end (runs : List (List Rn)) : db runs runs.length 0 = runs.flatten.map (·.b) := by simp [db]
theorem jr_arg {l : List Bt} {cl : Int} {done : List Int} {list : List Rn} {j : Nat} (h : ¬ ((0 ≤ (list.getD j zr).b ∧ (list.getD j zr).b < (l.length : Int)) ∧ 0 ≤ (list.getD j zr).f)) : jr l cl done list j = 2 := if_pos h
section
variable {l : List Bt} {cl : Int} {done : List Int} {list : List Rn} {j : Nat}
theorem jr_twice (h : (0 ≤ (list.getD j zr).b ∧ (list.getD j zr).b < (l.length : Int)) ∧ 0 ≤ (list.getD j zr).f) (h2 : (list.getD j zr).b ∈ done) : jr l cl done list j = 43 := by
  unfold jr; rw [if_neg (by simp only [Classical.not_not]; exact h), if_pos h2]
theorem jr_clash (h : (0 ≤ (list.getD j zr).b ∧ (list.getD j zr).b < (l.length : Int)) ∧ 0 ≤ (list.getD j zr).f) (h2 : (list.getD j zr).b ∉ done) (h3 : (0 < j ∧ (list.getD j zr).f < (list.getD (j - 1) zr).t) ∨ er (at' l (list.getD j zr).b.toNat) (list.getD j zr) cl = false) : jr l cl done list j = 73 := by
  unfold jr; rw [if_neg (by simp only [Classical.not_not]; exact h), if_neg h2, if_pos h3]
theorem jr_dirty (h : (0 ≤ (list.getD j zr).b ∧ (list.getD j zr).b < (l.length : Int)) ∧ 0 ≤ (list.getD j zr).f) (h2 : (list.getD j zr).b ∉ done) (h3 : ¬ ((0 < j ∧ (list.getD j zr).f < (list.getD (j - 1) zr).t) ∨ er (at' l (list.getD j zr).b.toNat) (list.getD j zr) cl = false)) (h4 : (list.getD j zr).c = false ∧ (j = 0 ∨ may (at' l (list.getD (j - 1) zr).b.toNat) (at' l (list.getD j zr).b.toNat) = false)) : jr l cl done list j = 61 := by
  unfold jr; rw [if_neg (by simp only [Classical.not_not]; exact h), if_neg h2, if_neg h3, if_pos h4]
theorem jr_ok (h : (0 ≤ (list.getD j zr).b ∧ (list.getD j zr).b < (l.length : Int)) ∧ 0 ≤ (list.getD j zr).f) (h2 : (list.getD j zr).b ∉ done) (h3 : ¬ ((0 < j ∧ (list.getD j zr).f < (list.getD (j - 1) zr).t) ∨ er (at' l (list.getD j zr).b.toNat) (list.getD j zr) cl = false)) (h4 : ¬ ((list.getD j zr).c = false ∧ (j = 0 ∨ may (at' l (list.getD (j - 1) zr).b.toNat) (at' l (list.getD j zr).b.toNat) = false))) : jr l cl done list j = 0 := by
  unfold jr; rw [if_neg (by simp only [Classical.not_not]; exact h), if_neg h2, if_neg h3, if_neg h4]
end
/-- when the runs in front are right, their batches are different indexes -/
theorem Jok.done {l : List Bt} {cl : Int} {runs : List (List Rn)} : ∀ k, k ≤ runs.length → ∀ j, (k < runs.length ∨ j = 0) → j ≤ (runs.getD k []).length → Jok l cl runs k j → (db runs k j).Nodup ∧ ∀ x, x ∈ db runs k j → 0 ≤ x ∧ x < (l.length : Int)
  | 0, _, 0, _, _, _ => by rw [db_zero]; exact ⟨List.nodup_nil, fun x hx => absurd hx List.not_mem_nil⟩
  | k + 1, hk, 0, _, _, h => by
    have ih := Jok.done k (by omega) (runs.getD k []).length (.inl (by omega)) (Nat.le_refl _) (fun k' j' h1 h2 h3 => h k' j' h1 h2 (.inl (by omega)))
    rw [db_next (by omega) (Nat.le_refl _)] at ih
    exact ih
  | k, hk, j + 1, h0, hj, h => by
    have hk' : k < runs.length := by omega
    have ih := Jok.done k hk j (.inl hk') (by omega) (fun k' j' h1 h2 h3 => h k' j' h1 h2 (by omega))
    have he := h k j hk' (by omega) (.inr ⟨rfl, by omega⟩)
    rw [db_succ (by omega)]
    unfold je jr at he
    split at he
    · cases he
    rename_i h1
    split at he
    · cases he
    rename_i h2
    have h1 := Classical.not_not.1 h1
    refine ⟨nodup_snoc.2 ⟨ih.1, h2⟩, fun x hx => ?_⟩
    rcases List.mem_append.1 hx with c | c
    · exact ih.2 x c
    · rw [List.mem_singleton.1 c]; exact h1.1
termination_by k _ j => (k, j)
end Go.Proofs.Ytlfbfdhdkccaeaa.Pl
