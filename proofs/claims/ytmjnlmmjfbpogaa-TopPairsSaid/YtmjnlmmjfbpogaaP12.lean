/- What a guard is. -/
import Derived.Test.YtmjnlmmjfbpogaaP11
import Derived.Test.YtmjnlmmjfbpogaaP8
namespace Go.Proofs.Ytmjnlmmjfbpogaa.Pl

/-- the set of a list of indexes, if it is one -/
def gi (n : Nat) : List Int → (Nat → Bool) → Option (Nat → Bool)
  | [], u => some u
  | i :: L, u => if (0 ≤ i ∧ i < n) ∧ u i.toNat = false then gi n L (see u i.toNat) else none
/-- is no pair outside of the set? -/
def gdk (l : List Tm) (tol : Int) (u : Nat → Bool) (i k : Nat) : Bool := can (at' l i) (at' l k) tol && (!u i && !u k)
def gd (l : List Tm) (tol : Int) (u : Nat → Bool) : Bool := (List.range l.length).all fun i => (List.range i).all fun k => !gdk l tol u i k
def igV (l : List Tm) (tol : Int) (L : List Int) : Bool := if ck l tol = 0 then (match gi l.length L noS with | none => false | some u => gd l tol u) else false
def igE (l : List Tm) (tol : Int) (L : List Int) : Int := if ck l tol = 0 then (match gi l.length L noS with | none => 2 | some _ => 0) else ck l tol
/-- what the loops know at i, k -/
def Gd (l : List Tm) (tol : Int) (u : Nat → Bool) (i k : Nat) : Prop := ∀ a b, a < l.length → b < a → (a < i ∨ (a = i ∧ b < k)) → gdk l tol u a b = false
section
variable {l : List Tm} {tol : Int} {u : Nat → Bool} {i k : Nat}
theorem Gd.start : Gd l tol u 0 0 := fun a b _ _ h => by omega
theorem Gd.row (h : Gd l tol u i i) : Gd l tol u (i + 1) 0 := fun a b h1 h2 h3 => h a b h1 h2 (by omega)
theorem Gd.next (h : Gd l tol u i k) (hn : gdk l tol u i k = false) : Gd l tol u i (k + 1) := fun a b h1 h2 h3 => by
  by_cases e : a = i ∧ b = k
  · obtain ⟨rfl, rfl⟩ := e; exact hn
  · exact h a b h1 h2 (by omega)
theorem Gd.fin (h : Gd l tol u l.length 0) : gd l tol u = true := by
  unfold gd
  rw [List.all_eq_true]
  intro i hi
  rw [List.all_eq_true]
  intro k hk
  rw [List.mem_range] at hi hk
  rw [h i k hi hk (.inl hi)]; rfl
theorem gd_no (hi : i < l.length) (hk : k < i) (h : gdk l tol u i k = true) : gd l tol u = false := by
  cases e : gd l tol u with
  | false => rfl
  | true =>
    unfold gd at e
    have := List.all_eq_true.1 (List.all_eq_true.1 e i (List.mem_range.2 hi)) k (List.mem_range.2 hk)
    rw [h] at this
    cases this
end
theorem gi_step {n : Nat} {L : List Int} {k : Nat} (hk : k < L.length) (u : Nat → Bool) : gi n (L.drop k) u = if (0 ≤ L[k] ∧ L[k] < n) ∧ u L[k].toNat = false then gi n (L.drop (k + 1)) (see u L[k].toNat) else none := by
  rw [List.drop_eq_getElem_cons hk, gi]
theorem gi_end {n : Nat} {L : List Int} {k : Nat} (hk : L.length ≤ k) (u : Nat → Bool) : gi n (L.drop k) u = some u := by
  rw [List.drop_of_length_le hk, gi]
end Go.Proofs.Ytmjnlmmjfbpogaa.Pl
