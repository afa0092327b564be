/- Plain: what is wrong with pairs; the greatest difference of lengths. -/
import Derived.Test.YtmjnlmmjfbpogaaP2
namespace Go.Proofs.Ytmjnlmmjfbpogaa.Pl

/-- both are indexes -/
def pok (n : Nat) (p : Int × Int) : Bool := decide (0 ≤ p.1 ∧ p.1 < n) && decide (0 ≤ p.2 ∧ p.2 < n)
/-- pairs in order, given which temples were in a pair before -/
def jgn (l : List Tm) (tol : Int) : List (Nat × Nat) → (Nat → Bool) → Int
  | [], _ => 0
  | (i, j) :: qs, u => if i = j ∨ u i = true ∨ u j = true then 43 else if (at' l i).side ≠ 1 ∨ can (at' l i) (at' l j) tol = false then 42 else jgn l tol qs (fun q => decide (q = j) || (decide (q = i) || u q))
theorem jgn_43 {l : List Tm} {tol : Int} {i j : Nat} {qs : List (Nat × Nat)} {u : Nat → Bool} (h : i = j ∨ u i = true ∨ u j = true) : jgn l tol ((i, j) :: qs) u = 43 := by rw [jgn, if_pos h]
theorem jgn_42 {l : List Tm} {tol : Int} {i j : Nat} {qs : List (Nat × Nat)} {u : Nat → Bool} (h1 : i ≠ j) (h2 : u i = false) (h3 : u j = false) (h : (at' l i).side ≠ 1 ∨ can (at' l i) (at' l j) tol = false) : jgn l tol ((i, j) :: qs) u = 42 := by
  rw [jgn, if_neg (by simp [h1, h2, h3]), if_pos h]
theorem jgn_on {l : List Tm} {tol : Int} {i j : Nat} {qs : List (Nat × Nat)} {u : Nat → Bool} (h1 : i ≠ j) (h2 : u i = false) (h3 : u j = false) (h4 : (at' l i).side = 1) (h5 : can (at' l i) (at' l j) tol = true) :
    jgn l tol ((i, j) :: qs) u = jgn l tol qs (fun q => decide (q = j) || (decide (q = i) || u q)) := by
  rw [jgn, if_neg (by simp [h1, h2, h3]), if_neg (by simp [h4, h5])]
def nat2 (p : Int × Int) : Nat × Nat := (p.1.toNat, p.2.toNat)
/-- the error of pairs of a valid list -/
def jd (l : List Tm) (tol : Int) (ps : List (Int × Int)) : Int := if ps.all (pok l.length) = true then jgn l tol (ps.map nat2) (fun _ => false) else 2
/-- Check -/
def chk (l : List Tm) (tol : Int) (ps : List (Int × Int)) : Int := if ck l tol = 0 then jd l tol ps else ck l tol
/-- the first k are all right -/
theorem all_snoc {n : Nat} {ps : List (Int × Int)} {k : Nat} (hk : k < ps.length) (h : (ps.take k).all (pok n) = true) (h1 : pok n ps[k] = true) : (ps.take (k + 1)).all (pok n) = true := by
  rw [List.take_succ_eq_append_getElem hk, List.all_append, h]
  simp [h1]
theorem all_not {n : Nat} {ps : List (Int × Int)} {k : Nat} (hk : k < ps.length) (h1 : pok n ps[k] = false) : ps.all (pok n) = false := by
  rw [List.all_eq_false]
  exact ⟨_, List.getElem_mem hk, by simp [h1]⟩
theorem pok_true {n : Nat} {p : Int × Int} (h : pok n p = true) : (0 ≤ p.1 ∧ p.1 < n) ∧ 0 ≤ p.2 ∧ p.2 < n := by
  unfold pok at h
  rw [Bool.and_eq_true, decide_eq_true_iff, decide_eq_true_iff] at h
  exact h
/-- how far apart two lengths are -/
def far (l : List Tm) (p : Nat × Nat) : Int := (at' l p.1).len - (at' l p.2).len
/-- the greatest difference of pairs, and of what was found before -/
def wsf (l : List Tm) : List (Nat × Nat) → Int → Int
  | [], m => m
  | p :: ps, m => wsf l ps (max m (max (far l p) (-far l p)))
/-- the error of Worst -/
def wsE (l : List Tm) (ps : List (Int × Int)) : Int := if vs l = true then jd l 2000 ps else 40
/-- Worst -/
def wsV (l : List Tm) (ps : List (Int × Int)) : Int := if wsE l ps = 0 then wsf l (ps.map nat2) 0 else 0
theorem jgn_nil {l : List Tm} {tol : Int} {u : Nat → Bool} : jgn l tol [] u = 0 := rfl
theorem jgn_cases {l : List Tm} {tol : Int} : ∀ {qs : List (Nat × Nat)} {u : Nat → Bool}, jgn l tol qs u = 0 ∨ jgn l tol qs u = 42 ∨ jgn l tol qs u = 43
  | [], _ => .inl rfl
  | (i, j) :: qs, u => by
    rw [jgn]
    split
    · exact .inr (.inr rfl)
    · split
      · exact .inr (.inl rfl)
      · exact jgn_cases
end Go.Proofs.Ytmjnlmmjfbpogaa.Pl
