import Derived.Test.YtflkhjicgojcbaaS3
namespace Go.Proofs.Ytflkhjicgojcbaa
open Go.RowKit Go.Shelf

/-- some corner has the least value -/
theorem exists_min (f : Nat → Int) (n : Nat) (hn : 0 < n) : ∃ m, m < n ∧ ∀ j, j < n → f m ≤ f j := by
  induction n with
  | zero => omega
  | succ n ih =>
    by_cases h : n = 0
    · subst h
      exact ⟨0, by omega, fun j hj => by obtain rfl : j = 0 := by omega
                                         exact Int.le_refl _⟩
    · obtain ⟨m, hm, hl⟩ := ih (by omega)
      by_cases hc : f m ≤ f n
      · exact ⟨m, by omega, fun j hj => by
          by_cases e : j = n
          · subst e; exact hc
          · exact hl j (by omega)⟩
      · exact ⟨n, by omega, fun j hj => by
          by_cases e : j = n
          · subst e; exact Int.le_refl _
          · have := hl j (by omega); omega⟩

/-- what a linear function does at d, when d lies between e1 and the way back along e0 -/
theorem corner_cone (u v : Int) (e0 e1 d : Geo.XY) (hc : 0 < Geo.cr e0 e1) (h0 : 0 ≤ Geo.cr e0 d) (h1 : 0 ≤ Geo.cr e1 d) (f0 : u * e0.1 + v * e0.2 ≤ 0) (f1 : 0 ≤ u * e1.1 + v * e1.2) : 0 ≤ u * d.1 + v * d.2 := by
  have key : (u * d.1 + v * d.2) * Geo.cr e0 e1 = Geo.cr e0 d * (u * e1.1 + v * e1.2) - Geo.cr e1 d * (u * e0.1 + v * e0.2) := by unfold Geo.cr; grind
  have a := Int.mul_nonneg h0 f1
  have b := Int.mul_nonneg h1 (show 0 ≤ -(u * e0.1 + v * e0.2) by omega)
  rw [Int.mul_neg] at b
  have hk : 0 ≤ (u * d.1 + v * d.2) * Geo.cr e0 e1 := by omega
  by_cases hn : 0 ≤ u * d.1 + v * d.2
  · exact hn
  · have := Int.mul_neg_of_neg_of_pos (show u * d.1 + v * d.2 < 0 by omega) hc
    omega

theorem mod_prev {n i : Nat} (hi : i < n) : ((i + n - 1) % n + 1) % n = i := by
  by_cases h : i = 0
  · subst h
    rw [show 0 + n - 1 = n - 1 by omega, Nat.mod_eq_of_lt (by omega : n - 1 < n), show n - 1 + 1 = n by omega, Nat.mod_self]
  · rw [show i + n - 1 = (i - 1) + n by omega, Nat.add_mod_right, Nat.mod_eq_of_lt (by omega : i - 1 < n), show i - 1 + 1 = i by omega, Nat.mod_eq_of_lt hi]

theorem cross_valid {p : List Geo.XY} (hv : Valid p) {i j : Nat} (hi : i < p.length) (hj : j < p.length) (h1 : j ≠ i) (h2 : j ≠ (i + 1) % p.length) : 0 < Geo.Cross (Geo.X p i) (Geo.X p ((i + 1) % p.length)) (Geo.X p j) := by
  have h := hv.2.2.2 i hi j hj h1 h2
  have hm : (i + 1) % p.length < p.length := Nat.mod_lt _ (by omega)
  rw [Geo.At_lt p hi, Geo.At_lt p hj, ← Geo.At_mod, Geo.At_lt p hm] at h
  exact h

/-- a corner with the least value of a linear function has it over all that the outline holds -/
theorem least_corner {p : List Geo.XY} (hv : Valid p) (u v : Int) : ∃ i, i < p.length ∧ ∀ x, Hold p x → u * (Geo.X p i).1 + v * (Geo.X p i).2 ≤ u * x.1 + v * x.2 := by
  have hn := hv.1
  obtain ⟨i, hi, hl⟩ := exists_min (fun i => u * (Geo.X p i).1 + v * (Geo.X p i).2) p.length (by omega)
  refine ⟨i, hi, fun x hx => ?_⟩
  obtain ⟨j, hj⟩ : ∃ j, j = (i + p.length - 1) % p.length := ⟨_, rfl⟩
  have hjl : j < p.length := by rw [hj]; exact Nat.mod_lt _ (by omega)
  have hji : (j + 1) % p.length = i := by rw [hj]; exact mod_prev hi
  obtain ⟨k, hk⟩ : ∃ k, k = (i + 1) % p.length := ⟨_, rfl⟩
  have hkl : k < p.length := by rw [hk]; exact Nat.mod_lt _ (by omega)
  have a1 := hx i hi
  have a2 := hx j hjl
  rw [hji] at a2
  rw [← hk] at a1
  have c0 := cross_valid hv hjl hkl (by
    intro e
    have e1 : (k + 1) % p.length = i := by rw [e]; exact hji
    rw [hk] at e1
    by_cases g : i + 1 = p.length
    · rw [g, Nat.mod_self] at e1
      rw [Nat.mod_eq_of_lt (by omega : 0 + 1 < p.length)] at e1
      omega
    · rw [Nat.mod_eq_of_lt (by omega : i + 1 < p.length)] at e1
      by_cases g2 : i + 1 + 1 = p.length
      · rw [g2, Nat.mod_self] at e1; omega
      · rw [Nat.mod_eq_of_lt (by omega : i + 1 + 1 < p.length)] at e1; omega) (by
    rw [hji, hk]
    intro e
    by_cases g : i + 1 = p.length
    · rw [g, Nat.mod_self] at e; omega
    · rw [Nat.mod_eq_of_lt (by omega : i + 1 < p.length)] at e; omega)
  rw [hji] at c0
  have m1 := hl k hkl
  have m2 := hl j hjl
  generalize Geo.X p i = A at *
  generalize Geo.X p j = B at *
  generalize Geo.X p k = C at *
  have := corner_cone u v (Geo.sub A B) (Geo.sub C A) (Geo.sub x A)
    (by unfold Geo.cr Geo.sub; unfold Geo.Cross at c0; grind) (by unfold Geo.cr Geo.sub; unfold Geo.Cross at a2; grind) (by unfold Geo.cr Geo.sub; unfold Geo.Cross at a1; grind)
    (by unfold Geo.sub; simp only [Int.mul_sub]; omega) (by unfold Geo.sub; simp only [Int.mul_sub]; omega)
  unfold Geo.sub at this
  simp only [Int.mul_sub] at this
  omega

theorem hold_iff {l : List Geo.XY} {p : Geo.XY} : holdB l p = true ↔ Hold l p := by unfold holdB; rw [decide_eq_true_eq]
theorem holdAll_iff {l q : List Geo.XY} : holdAllB l q = true ↔ ∀ i, i < q.length → Hold l (Geo.X q i) := by
  unfold holdAllB; rw [decide_eq_true_eq]; unfold HoldAll; simp only [hold_iff]

/-- what an outline within another one holds, the other one holds -/
theorem hold_of_within {p q : List Geo.XY} (hp : Valid p) (h : holdAllB q p = true) {x : Geo.XY} (hx : Hold p x) : Hold q x := by
  intro k hk
  obtain ⟨i, hi, hl⟩ := least_corner hp ((Geo.X q k).2 - (Geo.X q ((k + 1) % q.length)).2) ((Geo.X q ((k + 1) % q.length)).1 - (Geo.X q k).1)
  have h1 := holdAll_iff.1 h i hi k hk
  have h2 := hl x hx
  generalize Geo.X q k = A at *
  generalize Geo.X q ((k + 1) % q.length) = B at *
  generalize Geo.X p i = C at *
  unfold Geo.Cross at *
  simp only [Int.mul_sub, Int.sub_mul] at *
  omega

theorem within_trans {o p q : List Geo.XY} (hp : Valid p) (h1 : holdAllB p o = true) (h2 : holdAllB q p = true) : holdAllB q o = true :=
  holdAll_iff.2 fun i hi => hold_of_within hp h2 (holdAll_iff.1 h1 i hi)

theorem cross_end (a b : Geo.XY) : Geo.Cross a b a = 0 ∧ Geo.Cross a b b = 0 := by unfold Geo.Cross; constructor <;> grind

theorem within_self {o : List Geo.XY} (hv : Valid o) : holdAllB o o = true := holdAll_iff.2 fun j hj i hi => by
  by_cases h1 : j = i
  · subst h1; rw [(cross_end _ _).1]; exact Int.le_refl _
  · by_cases h2 : j = (i + 1) % o.length
    · rw [← h2, (cross_end _ _).2]; exact Int.le_refl _
    · exact Int.le_of_lt (cross_valid hv hi hj h1 h2)

theorem near_self (o : List Geo.XY) : nearB o o 0 = true := by
  unfold nearB
  rw [decide_eq_true_eq]
  intro k _
  unfold NearAt gapAt
  rw [Int.sub_self]
  simp

theorem near_more {l g : List Geo.XY} {a b : Int} (h0 : 0 ≤ a) (h : a ≤ b) (hn : nearB l g a = true) : nearB l g b = true := by
  unfold nearB at *
  rw [decide_eq_true_eq] at *
  intro k hk
  have := hn k hk
  unfold NearAt at *
  have hab : a * a ≤ b * b := Int.mul_le_mul h h h0 (by omega)
  have hs : 0 ≤ outU g k * outU g k + outV g k * outV g k := by
    have h1 : ∀ x : Int, 0 ≤ x * x := fun x => by
      by_cases h : 0 ≤ x
      · exact Int.mul_nonneg h h
      · rw [← Int.neg_mul_neg]; exact Int.mul_nonneg (by omega) (by omega)
    have := h1 (outU g k); have := h1 (outV g k); omega
  exact Int.le_trans this (Int.mul_le_mul_of_nonneg_right hab hs)
end Go.Proofs.Ytflkhjicgojcbaa
