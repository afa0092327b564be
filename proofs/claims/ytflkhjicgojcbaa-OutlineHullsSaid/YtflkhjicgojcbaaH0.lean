/- Plain geometry: going around some places from the lowest one on. It imports nothing of the program. -/
import Derived.Test.YtflkhjicgojcbaaG8
namespace Go.Proofs.Ytflkhjicgojcbaa.Geo

def sqd (a p : XY) : Int := (p.1 - a.1) * (p.1 - a.1) + (p.2 - a.2) * (p.2 - a.2)
/-- p is taken in the place of x -/
def Take (a x p : XY) : Prop := p ≠ a ∧ (x = a ∨ Cross a x p < 0 ∨ (Cross a x p = 0 ∧ sqd a x < sqd a p))
instance (a x p : XY) : Decidable (Take a x p) := by unfold Take; infer_instance
def pickK (l : List XY) (a : XY) : Nat → XY
  | 0 => a
  | k + 1 => if Take a (pickK l a k) (X l k) then X l k else pickK l a k
/-- from a, all that is not b lies to the left of the way to b, or on it and nearer -/
def Beats (a b p : XY) : Prop := 0 < Cross a b p ∨ (Cross a b p = 0 ∧ sqd a p < sqd a b)
theorem Cross_anti (a b p : XY) : Cross a p b = - Cross a b p := by unfold Cross; grind
theorem Cross_self (a b : XY) : Cross a b b = 0 := by unfold Cross; grind
theorem pick_hull {l : List XY} {a b : XY} (hb : b ∈ l) (hab : b ≠ a) (hall : ∀ p, p ∈ l → p ≠ a → p ≠ b → Beats a b p) : pickK l a l.length = b := by
  have key : ∀ k, k ≤ l.length → ((∃ j, j < k ∧ X l j = b) → pickK l a k = b) ∧ ((¬ ∃ j, j < k ∧ X l j = b) → pickK l a k = a ∨ (pickK l a k ∈ l ∧ pickK l a k ≠ a ∧ pickK l a k ≠ b)) := by
    intro k hk
    induction k with
    | zero => exact ⟨fun ⟨j, hj, _⟩ => by omega, fun _ => .inl rfl⟩
    | succ k ih =>
      obtain ⟨ih1, ih2⟩ := ih (by omega)
      have hm := X_mem (show k < l.length by omega)
      by_cases hx : ∃ j, j < k ∧ X l j = b
      · have e := ih1 hx
        have hs : pickK l a (k + 1) = b := by
          rw [pickK, e, if_neg]
          rintro ⟨h1, h2 | h2 | ⟨h2, h3⟩⟩
          · exact hab h2
          · by_cases hpb : X l k = b
            · rw [hpb, Cross_self] at h2; omega
            · rcases hall _ hm h1 hpb with h | ⟨h, _⟩ <;> omega
          · by_cases hpb : X l k = b
            · rw [hpb] at h3; omega
            · rcases hall _ hm h1 hpb with h | ⟨_, h⟩ <;> omega
        exact ⟨fun _ => hs, fun hn => absurd (let ⟨j, hj, he⟩ := hx; ⟨j, by omega, he⟩) hn⟩
      · have e := ih2 hx
        by_cases hpb : X l k = b
        · have hs : pickK l a (k + 1) = b := by
            rw [pickK, hpb, if_pos]
            refine ⟨hab, ?_⟩
            rcases e with e | ⟨e1, e2, e3⟩
            · exact .inl e
            · right
              rcases hall _ e1 e2 e3 with h | ⟨h, h'⟩
              · left; rw [Cross_anti]; omega
              · right; exact ⟨by rw [Cross_anti]; omega, h'⟩
          exact ⟨fun _ => hs, fun hn => absurd ⟨k, by omega, hpb⟩ hn⟩
        · refine ⟨fun ⟨j, hj, he⟩ => ?_, fun _ => ?_⟩
          · by_cases hjk : j = k
            · subst hjk; exact absurd he hpb
            · exact absurd ⟨j, by omega, he⟩ hx
          · rw [pickK]
            split
            · rename_i ht
              exact .inr ⟨hm, ht.1, hpb⟩
            · exact e
  obtain ⟨j, hj, he⟩ := mem_X hb
  exact (key _ (Nat.le_refl _)).1 ⟨j, hj, he⟩

theorem on_way {d y e f : XY} (hd : cr d y = 0) (hn : y ≠ d) (h1 : 0 < cr f d) (h2 : 0 < cr d e) (h3 : 0 ≤ cr f y) (h4 : 0 ≤ cr e (sub y d)) : y.1 * y.1 + y.2 * y.2 < d.1 * d.1 + d.2 * d.2 := by
  have e4 : cr e (sub y d) = cr d e - cr y e := by unfold cr sub; grind
  rw [e4] at h4
  have i1 : cr d e * y.1 = cr y e * d.1 := by unfold cr at *; grind
  have i2 : cr d e * y.2 = cr y e * d.2 := by unfold cr at *; grind
  have i3 : cr f y * cr d e = cr f d * cr y e := by unfold cr at *; grind
  generalize hg : cr d e = g at *
  generalize hdl : cr y e = dl at *
  generalize hal : cr f d = al at *
  generalize hbe : cr f y = be at *
  have hlt : dl ≠ g := by
    intro he
    subst he
    apply hn
    have a1 : y.1 = d.1 := Int.eq_of_mul_eq_mul_left (by omega) i1
    have a2 : y.2 = d.2 := Int.eq_of_mul_eq_mul_left (by omega) i2
    exact Prod.ext a1 a2
  have hdl0 : 0 ≤ dl := by
    have h5 : 0 ≤ al * dl := by rw [← i3]; exact Int.mul_nonneg h3 (by omega)
    refine Decidable.byContradiction fun hn => ?_
    have := Int.mul_neg_of_pos_of_neg h1 (show dl < 0 by omega)
    omega
  have hd2 : 0 < d.1 * d.1 + d.2 * d.2 := by
    have n1 : 0 ≤ d.1 * d.1 := by rcases Int.le_total 0 d.1 with h | h; exact Int.mul_nonneg h h; exact Int.mul_nonneg_of_nonpos_of_nonpos h h
    have n2 : 0 ≤ d.2 * d.2 := by rcases Int.le_total 0 d.2 with h | h; exact Int.mul_nonneg h h; exact Int.mul_nonneg_of_nonpos_of_nonpos h h
    refine Decidable.byContradiction fun hn => ?_
    have z1 : d.1 * d.1 = 0 := by omega
    have z2 : d.2 * d.2 = 0 := by omega
    have z3 : d.1 = 0 := by rcases Int.mul_eq_zero.1 z1 with h | h <;> exact h
    have z4 : d.2 = 0 := by rcases Int.mul_eq_zero.1 z2 with h | h <;> exact h
    rw [← hg] at h2
    unfold cr at h2
    rw [z3, z4] at h2
    simp at h2
  have s1 : (g * g) * (y.1 * y.1 + y.2 * y.2) = (dl * dl) * (d.1 * d.1 + d.2 * d.2) := by
    have j1 : (g * y.1) * (g * y.1) = (dl * d.1) * (dl * d.1) := by rw [i1]
    have j2 : (g * y.2) * (g * y.2) = (dl * d.2) * (dl * d.2) := by rw [i2]
    grind
  have s2 : dl * dl < g * g := Int.lt_of_le_of_lt (Int.mul_le_mul_of_nonneg_left (show dl ≤ g by omega) hdl0) (Int.mul_lt_mul_of_pos_right (show dl < g by omega) (show 0 < g by omega))
  have s3 : (dl * dl) * (d.1 * d.1 + d.2 * d.2) < (g * g) * (d.1 * d.1 + d.2 * d.2) := Int.mul_lt_mul_of_pos_right s2 hd2
  rw [← s1] at s3
  exact Int.lt_of_mul_lt_mul_left s3 (Int.mul_nonneg (by omega) (by omega))

/-- from each corner of an outline that holds the places, the next corner is picked -/
theorem pick_next {q l : List XY} (hq : Std q) (hm : ∀ p, p ∈ q → p ∈ l) (hh : ∀ p, p ∈ l → ∀ k, k < q.length → 0 ≤ cr (edge (At q) k) (sub p (X q k))) {i : Nat} (hi : i < q.length) : pickK l (X q i) l.length = At q (i + 1) := by
  have h3 := hq.h3
  have hp0 := hq.pos
  have hA : ∀ k, At q k ∈ l := fun k => hm _ (by rw [At_X q hp0]; exact X_mem (Nat.mod_lt _ hp0))
  have hhA : ∀ p, p ∈ l → ∀ k, 0 ≤ cr (edge (At q) k) (sub p (At q k)) := fun p hp k => by
    have := hh p hp (k % q.length) (Nat.mod_lt _ hp0)
    have e1 : edge (At q) (k % q.length) = edge (At q) k := by
      unfold edge; rw [At_mod, At_congr q (show (k % q.length + 1) % q.length = (k + 1) % q.length by rw [Nat.mod_add_mod])]
    rw [e1, ← At_lt q (Nat.mod_lt _ hp0), At_mod] at this
    exact this
  refine pick_hull (hA _) (fun he => ?_) (fun p hp hpa hpb => ?_)
  · have := hq.nz i
    apply this
    unfold edge
    rw [he, At_lt q hi]; unfold sub; ext <;> simp
  · have c0 := hhA p hp i
    have ed : edge (At q) i = sub (At q (i + 1)) (X q i) := by unfold edge; rw [At_lt q hi]
    rw [At_lt q hi] at c0
    have ec : Cross (X q i) (At q (i + 1)) p = cr (edge (At q) i) (sub p (X q i)) := by rw [Cross_cr, ed]
    unfold Beats
    rw [ec]
    by_cases hz : 0 < cr (edge (At q) i) (sub p (X q i))
    · exact .inl hz
    · right
      refine ⟨by omega, ?_⟩
      have n1 := hq.hl i
      have n2 := hq.hl (i + q.length - 1)
      rw [show i + q.length - 1 + 1 = i + q.length by omega, hq.per] at n2
      have c1 := hhA p hp (i + 1)
      have c2 := hhA p hp (i + q.length - 1)
      have e2 : cr (edge (At q) (i + q.length - 1)) (sub p (X q i)) = cr (edge (At q) (i + q.length - 1)) (sub p (At q (i + q.length - 1))) := by
        have e3 : edge (At q) (i + q.length - 1) = sub (X q i) (At q (i + q.length - 1)) := by
          unfold edge; rw [show i + q.length - 1 + 1 = i + q.length by omega, At_per, At_lt q hi]
        rw [e3]; unfold cr sub; grind
      have := on_way (d := edge (At q) i) (y := sub p (X q i)) (e := edge (At q) (i + 1)) (f := edge (At q) (i + q.length - 1)) (by omega) (fun he => hpb (by
        rw [ed] at he
        have a1 := congrArg Prod.fst he
        have a2 := congrArg Prod.snd he
        unfold sub at a1 a2
        dsimp only at a1 a2
        exact Prod.ext (by omega) (by omega))) n2 n1 (by rw [e2]; exact c2) (by
          have e5 : sub (sub p (X q i)) (edge (At q) i) = sub p (At q (i + 1)) := by rw [ed]; unfold sub; ext <;> dsimp only <;> omega
          rw [e5]; exact c1)
      rw [ed] at this
      unfold sqd
      unfold sub at this
      exact this
/-- the lowest place is where an outline that holds the places begins -/
theorem low_first {q l : List XY} (hl : ∀ p, p ∈ l → ¬ low p (X q 0)) (hm : X q 0 ∈ l) : X (canon l) 0 = X q 0 := by
  obtain ⟨j, hj, he⟩ := mem_X hm
  have h0 : 0 < l.length := by omega
  have hk := lowIdx_lt l l.length h0
  have e : X (canon l) 0 = X l (lowIdx l l.length) := by rw [canon_get l 0 h0, Nat.add_zero, At_lt l hk]
  rw [e]
  have h1 := lowIdx_least l l.length j hj
  have h2 := hl _ (X_mem hk)
  rw [he] at h1
  rcases low_total (X l (lowIdx l l.length)) (X q 0) with c | c | c
  · exact absurd c h2
  · exact c
  · exact absurd c h1
end Go.Proofs.Ytflkhjicgojcbaa.Geo
