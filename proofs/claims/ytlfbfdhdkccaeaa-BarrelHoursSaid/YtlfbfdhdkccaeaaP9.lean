/- Plain: how often each stage is met up to an hour. -/
import Derived.Test.YtlfbfdhdkccaeaaP8
namespace Go.Proofs.Ytlfbfdhdkccaeaa.Pl

/-- hours in cleaning, in stage k, outside, up to an hour, of a run from f on -/
def c0 (x p : Int) : Int := max 0 (min p x)
def ck (s h p : Int) : Int := max 0 (min (p - s) h)
/-- hours outside: one ahead, and those behind T hours -/
def c5 (T p : Int) : Int := (if p < 0 then 0 else 1) + max 0 (p - T)
/-- all counts at p hours behind the begin -/
def cs (E : Bt) (x p : Int) (j : Nat) : Int :=
  match j with
  | 0 => c0 x p
  | 1 => ck x E.h0 p
  | 2 => ck (x + E.h0) E.h1 p
  | 3 => ck (x + E.h0 + E.h1) E.h2 p
  | 4 => ck (x + E.h0 + E.h1 + E.h2) E.h3 p
  | _ => c5 (x + len E) p
/-- the stage at p hours behind the begin -/
def sgV (E : Bt) (x p : Int) : Int := if p < 0 ∨ x + len E ≤ p then 5 else sg E x p
theorem sgV_cases (E : Bt) (x p : Int) : sgV E x p = 0 ∨ sgV E x p = 1 ∨ sgV E x p = 2 ∨ sgV E x p = 3 ∨ sgV E x p = 4 ∨ sgV E x p = 5 := by
  unfold sgV sg
  repeat' split
  all_goals omega
theorem cs_step {E : Bt} (h : Vb E) {x p : Int} (hx : 0 ≤ x) (hp : -1 ≤ p) (j : Nat) (hj : j ≤ 5) : cs E x (p + 1) j = if sgV E x p = (j : Int) then cs E x p j + 1 else cs E x p j := by
  obtain ⟨a0, _, a1, _, a2, _, a3, _⟩ := h
  have hj6 : j = 0 ∨ j = 1 ∨ j = 2 ∨ j = 3 ∨ j = 4 ∨ j = 5 := by omega
  unfold sgV
  by_cases hout : p < 0 ∨ x + len E ≤ p
  · rw [if_pos hout]
    unfold len at hout
    rcases hj6 with rfl | rfl | rfl | rfl | rfl | rfl
    · rw [if_neg (by omega)]; unfold cs c0; simp only; omega
    · rw [if_neg (by omega)]; unfold cs ck; simp only; omega
    · rw [if_neg (by omega)]; unfold cs ck; simp only; omega
    · rw [if_neg (by omega)]; unfold cs ck; simp only; omega
    · rw [if_neg (by omega)]; unfold cs ck; simp only; omega
    · rw [if_pos (by omega)]; unfold cs c5 len; simp only; split <;> split <;> omega
  · rw [if_neg hout]
    unfold len at hout
    unfold sg
    rcases hj6 with rfl | rfl | rfl | rfl | rfl | rfl
    · unfold cs c0; simp only; repeat' split
      all_goals omega
    · unfold cs ck; simp only; repeat' split
      all_goals omega
    · unfold cs ck; simp only; repeat' split
      all_goals omega
    · unfold cs ck; simp only; repeat' split
      all_goals omega
    · unfold cs ck; simp only; repeat' split
      all_goals omega
    · unfold cs c5 len; simp only; repeat' split
      all_goals omega
theorem cs_zero {E : Bt} (h : Vb E) {x : Int} (hx : 0 ≤ x) (j : Nat) (hj : j ≤ 5) : cs E x (-1) j = 0 := by
  obtain ⟨a0, _, a1, _, a2, _, a3, _⟩ := h
  have hj6 : j = 0 ∨ j = 1 ∨ j = 2 ∨ j = 3 ∨ j = 4 ∨ j = 5 := by omega
  rcases hj6 with rfl | rfl | rfl | rfl | rfl | rfl
  · unfold cs c0; simp only; omega
  · unfold cs ck; simp only; omega
  · unfold cs ck; simp only; omega
  · unfold cs ck; simp only; omega
  · unfold cs ck; simp only; omega
  · unfold cs c5 len; simp only; split <;> omega
theorem cs_end {E : Bt} (h : Vb E) {x : Int} (hx : 0 ≤ x) : cs E x (x + len E + 1) 0 = x ∧ cs E x (x + len E + 1) 1 = E.h0 ∧ cs E x (x + len E + 1) 2 = E.h1 ∧ cs E x (x + len E + 1) 3 = E.h2 ∧ cs E x (x + len E + 1) 4 = E.h3 := by
  obtain ⟨a0, _, a1, _, a2, _, a3, _⟩ := h
  unfold cs c0 ck len
  simp only
  omega
theorem cs_bd {E : Bt} (h : Vb E) {x p : Int} (hx : 0 ≤ x) (hx1 : x ≤ 100) (hp : p ≤ 1000) (j : Nat) : 0 ≤ cs E x p j ∧ cs E x p j ≤ 2000 := by
  obtain ⟨a0, b0, a1, b1, a2, b2, a3, b3, _⟩ := h
  unfold cs
  split
  · unfold c0; omega
  · unfold ck; omega
  · unfold ck; omega
  · unfold ck; omega
  · unfold ck; omega
  · unfold c5 len; split <;> omega
theorem sg_mono {E : Bt} (h : Vb E) {x p : Int} (hp : p + 1 < x + len E) : sg E x p ≤ sg E x (p + 1) := by
  obtain ⟨a0, _, a1, _, a2, _, a3, _⟩ := h
  unfold len at hp
  unfold sg
  repeat' split
  all_goals omega
theorem sg_bd (E : Bt) (x p : Int) : 0 ≤ sg E x p := by
  unfold sg
  repeat' split
  all_goals omega
theorem sgV_in {E : Bt} {x p j : Int} (hj : sgV E x p = j) (h5 : j ≠ 5) : 0 ≤ p ∧ p < x + len E ∧ sg E x p = j := by
  unfold sgV at hj
  split at hj
  · omega
  · rename_i hh
    exact ⟨by omega, by omega, hj⟩
theorem sgV_out {E : Bt} (h : Vb E) {x p : Int} (hj : sgV E x p = 5) : p < 0 ∨ x + len E ≤ p := by
  obtain ⟨a0, _, a1, _, a2, _, a3, _⟩ := h
  unfold sgV at hj
  split at hj
  · assumption
  · unfold sg at hj
    unfold len
    repeat' split at hj
    all_goals omega
end Go.Proofs.Ytlfbfdhdkccaeaa.Pl
