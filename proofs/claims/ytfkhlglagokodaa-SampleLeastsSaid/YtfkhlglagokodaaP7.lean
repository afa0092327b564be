/- Plain: the least sample. -/
import Derived.Test.YtfkhlglagokodaaP3
namespace Go.Proofs.Ytfkhlglagokodaa.Pl

/-- the first of k numbers from s on with f -/
def lsr (f : Nat → Bool) : Nat → Nat → Option Nat
  | _, 0 => none
  | s, k + 1 => if f s = true then some s else lsr f (s + 1) k
theorem lsr_zero (f : Nat → Bool) (s : Nat) : lsr f s 0 = none := rfl
theorem lsr_yes {f : Nat → Bool} {s k : Nat} (h : f s = true) : lsr f s (k + 1) = some s := if_pos h
theorem lsr_no {f : Nat → Bool} {s k : Nat} (h : f s = false) : lsr f s (k + 1) = lsr f (s + 1) k := if_neg (by rw [h]; decide)
theorem lsr_some {f : Nat → Bool} : ∀ {k s n : Nat}, lsr f s k = some n → f n = true ∧ s ≤ n ∧ n < s + k ∧ ∀ t, s ≤ t → t < n → f t = false := by
  intro k
  induction k with
  | zero => intro s n h; cases h
  | succ k ih =>
    intro s n h
    cases hf : f s with
    | true =>
      rw [lsr_yes hf] at h
      cases h
      exact ⟨hf, Nat.le_refl _, by omega, fun t h1 h2 => by omega⟩
    | false =>
      rw [lsr_no hf] at h
      obtain ⟨h1, h2, h3, h4⟩ := ih h
      refine ⟨h1, by omega, by omega, fun t h5 h6 => ?_⟩
      by_cases e : t = s
      · rw [e]; exact hf
      · exact h4 t (by omega) h6
/-- a sample is enough -/
def enough (L b a p q s : Nat) : Bool := decide (cmp (cn s a L b * q) (p * cd s a L b) ≤ 0)
def lok (L b a p q : Int) : Bool := inB 1 L 60 && (inB 0 b L && (inB 0 a (L - 1) && (decide (0 ≤ p) && decide (0 < q))))
def lst' (L b a p q : Int) : Option Nat := lsr (enough L.toNat b.toNat a.toNat p.toNat q.toNat) (a.toNat + 1) (L.toNat - a.toNat)
def oN : Option Nat → Nat
  | some n => n
  | none => 0
def oE : Option Nat → Int
  | some _ => 0
  | none => 4
def LN (L b a p q : Int) : Nat := if lok L b a p q = true then oN (lst' L b a p q) else 0
def LE (L b a p q : Int) : Int := if lok L b a p q = true then oE (lst' L b a p q) else 2
theorem lok_ok {L b a p q : Int} (h : lok L b a p q = true) : ∃ l c t x y : Nat, L = l ∧ b = c ∧ a = t ∧ p = x ∧ q = y ∧ 1 ≤ l ∧ l ≤ 60 ∧ c ≤ l ∧ t + 1 ≤ l ∧ 0 < y := by
  unfold lok at h
  simp only [Bool.and_eq_true, inB_iff, decide_eq_true_iff] at h
  obtain ⟨⟨a1, a2⟩, ⟨a3, a4⟩, ⟨a5, a6⟩, a7, a8⟩ := h
  refine ⟨L.toNat, b.toNat, a.toNat, p.toNat, q.toNat, ?_, ?_, ?_, ?_, ?_, ?_, ?_, ?_, ?_, ?_⟩ <;> omega
theorem lok_LE {L b a p q : Int} (h : lok L b a p q = false) : LE L b a p q = 2 ∧ LN L b a p q = 0 := by
  unfold LE LN; rw [h]; exact ⟨rfl, rfl⟩
theorem LE_nat {l c t x y : Nat} (h : lok l c t x y = true) : LE l c t x y = oE (lsr (enough l c t x y) (t + 1) (l - t)) ∧ LN l c t x y = oN (lsr (enough l c t x y) (t + 1) (l - t)) := by
  unfold LE LN; rw [if_pos h, if_pos h]; exact ⟨rfl, rfl⟩
end Go.Proofs.Ytfkhlglagokodaa.Pl
