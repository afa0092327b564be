/- Plain: lists of different indexes; which are apart; how long they take together. -/
import Derived.Test.YtlfbfdhdkccaeaaP4
namespace Go.Proofs.Ytlfbfdhdkccaeaa.Pl

/-- the rest of a list has different indexes, given what came before -/
def choL (n : Nat) : List Int → List Int → Bool
  | _, [] => true
  | p, x :: r => inB 0 x ((n : Int) - 1) && (!decide (x ∈ p) && choL n (p ++ [x]) r)
def cho (n : Nat) (xs : List Int) : Bool := choL n [] xs
theorem cho_step {n : Nat} {xs : List Int} {k : Nat} (hk : k < xs.length) :
    choL n (xs.take k) (xs.drop k) = (inB 0 xs[k] ((n : Int) - 1) && (!decide (xs[k] ∈ xs.take k) && choL n (xs.take (k + 1)) (xs.drop (k + 1)))) := by
  rw [List.drop_eq_getElem_cons hk, choL, List.take_succ_eq_append_getElem hk]
theorem cho_end {n : Nat} {xs : List Int} : choL n (xs.take xs.length) (xs.drop xs.length) = true := by rw [List.drop_length]; rfl
theorem choL_iff {n : Nat} : ∀ {r p : List Int}, choL n p r = true ↔ (∀ x, x ∈ r → 0 ≤ x ∧ x < n ∧ x ∉ p) ∧ r.Nodup
  | [], p => by simp [choL]
  | x :: r, p => by
    rw [choL, Bool.and_eq_true, Bool.and_eq_true, inB_true, choL_iff]
    simp only [Bool.not_eq_true', decide_eq_false_iff_not, List.mem_cons, List.nodup_cons, List.mem_append, List.not_mem_nil, or_false, not_or]
    constructor
    · rintro ⟨h1, h2, h3, h4⟩
      refine ⟨?_, fun hm => (h3 x hm).2.2.2 rfl, h4⟩
      rintro y (rfl | hy)
      · exact ⟨h1.1, by omega, h2⟩
      · exact ⟨(h3 y hy).1, (h3 y hy).2.1, (h3 y hy).2.2.1⟩
    · rintro ⟨h1, h2, h3⟩
      exact ⟨⟨(h1 x (.inl rfl)).1, by have := (h1 x (.inl rfl)).2.1; omega⟩, (h1 x (.inl rfl)).2.2, fun y hy => ⟨(h1 y (.inr hy)).1, (h1 y (.inr hy)).2.1, (h1 y (.inr hy)).2.2, fun e => h2 (e ▸ hy)⟩, h3⟩
theorem cho_iff {n : Nat} {xs : List Int} : cho n xs = true ↔ (∀ x, x ∈ xs → 0 ≤ x ∧ x < n) ∧ xs.Nodup := by
  unfold cho; rw [choL_iff]; simp
/-- the error of a list and some indexes -/
def clE (l : List Bt) (xs : List Int) : Int := if vs l = true then (if cho l.length xs = true then 0 else 2) else 60
theorem clE_no {l : List Bt} {xs : List Int} (h : vs l = false) : clE l xs = 60 := if_neg (by rw [h]; simp)
theorem clE_bad {l : List Bt} {xs : List Int} (h : vs l = true) (h2 : cho l.length xs = false) : clE l xs = 2 := by unfold clE; rw [if_pos h, if_neg (by rw [h2]; simp)]
theorem clE_ok {l : List Bt} {xs : List Int} (h : vs l = true) (h2 : cho l.length xs = true) : clE l xs = 0 := by unfold clE; rw [if_pos h, if_pos h2]
/-- the batch with an index that came in -/
def bx (l : List Bt) (xs : List Int) (i : Nat) : Bt := at' l (xs.getD i 0).toNat
/-- the first k are apart -/
def apk (l : List Bt) (xs : List Int) (k : Nat) : Prop := ∀ i, i < k → ∀ j, j < i → apt (bx l xs i) (bx l xs j) = true
instance (l : List Bt) (xs : List Int) (k : Nat) : Decidable (apk l xs k) := inferInstanceAs (Decidable (∀ i, i < k → ∀ j, j < i → apt (bx l xs i) (bx l xs j) = true))
def apB (l : List Bt) (xs : List Int) : Bool := decide (apk l xs xs.length)
/-- Apart -/
def apV (l : List Bt) (xs : List Int) : Bool := if clE l xs = 0 then apB l xs else false
theorem apB_no {l : List Bt} {xs : List Int} {i j : Nat} (hi : i < xs.length) (hj : j < i) (h : apt (bx l xs i) (bx l xs j) = false) : apB l xs = false :=
  decide_eq_false fun hh => by rw [hh i hi j hj] at h; cases h
/-- the lengths of the first k together -/
def lnk (l : List Bt) (xs : List Int) : Nat → Int
  | 0 => 0
  | k + 1 => lnk l xs k + len (bx l xs k)
/-- Length -/
def lnV (l : List Bt) (xs : List Int) : Int := if clE l xs = 0 then lnk l xs xs.length else 0
theorem idx_lt {n : Nat} {xs : List Int} (h : cho n xs = true) {i : Nat} (hi : i < xs.length) : ∃ q : Nat, xs[i] = q ∧ q < n := by
  obtain ⟨h1, h2⟩ := (cho_iff.1 h).1 _ (List.getElem_mem hi)
  exact ⟨xs[i].toNat, by omega, by omega⟩
theorem bx_eq {l : List Bt} {xs : List Int} {i q : Nat} (hi : i < xs.length) (h : xs[i] = q) : bx l xs i = at' l q := by
  unfold bx
  rw [List.getD_eq_getElem?_getD, List.getElem?_eq_getElem hi]
  simp [h]
theorem bx_vb {l : List Bt} (hl : Ok l) {xs : List Int} (h : cho l.length xs = true) {i : Nat} (hi : i < xs.length) : Vb (bx l xs i) := by
  obtain ⟨q, h1, h2⟩ := idx_lt h hi
  rw [bx_eq hi h1]
  exact hl.vb q h2
theorem lnk_bd {l : List Bt} (hl : Ok l) {xs : List Int} (h : cho l.length xs = true) : ∀ k, k ≤ xs.length → 0 ≤ lnk l xs k ∧ lnk l xs k ≤ 400 * k
  | 0, _ => ⟨Int.le_refl _, Int.le_refl _⟩
  | k + 1, hk => by
    have h1 := lnk_bd hl h k (by omega)
    have h2 := (bx_vb hl h (show k < xs.length by omega)).len0
    rw [lnk]
    omega
end Go.Proofs.Ytlfbfdhdkccaeaa.Pl
