/- Plain geometry: which lists of corners are outlines, canonical forms, areas, roots. It imports nothing of the program. -/
namespace Go.Proofs.YthabpgclnbmnpaaGreatDoor.Geo
abbrev XY := Int × Int
def cr (a b : XY) : Int := a.1 * b.2 - a.2 * b.1
def sub (a b : XY) : XY := (a.1 - b.1, a.2 - b.2)
def turn (a b c : XY) : Int := cr (sub b a) (sub c b)
def Cross (a b c : XY) : Int := (b.1 - a.1) * (c.2 - a.2) - (b.2 - a.2) * (c.1 - a.1)
def up (e : XY) : Prop := e.2 > 0 ∨ (e.2 = 0 ∧ e.1 > 0)
instance (e : XY) : Decidable (up e) := by unfold up; infer_instance

theorem turn_eq (a b c : XY) : turn a b c = Cross a b c := by
  unfold turn cr sub Cross; grind

theorem Cross_cr (a b c : XY) : Cross a b c = cr (sub b a) (sub c a) := by
  unfold cr sub Cross; grind

theorem hp {a b c : XY} (ha : up a) (hb : up b) (hc : up c) (h1 : 0 ≤ cr a b) (h2 : 0 < cr b c) : 0 < cr a c := by
  obtain ⟨a1, a2⟩ := a
  obtain ⟨b1, b2⟩ := b
  obtain ⟨c1, c2⟩ := c
  unfold up at *
  unfold cr at *
  simp only at *
  have id : (a1 * c2 - a2 * c1) * b2 = (b1 * c2 - b2 * c1) * a2 + (a1 * b2 - a2 * b1) * c2 := by grind
  have ha2 : 0 ≤ a2 := by omega
  have hb2 : 0 ≤ b2 := by omega
  have hc2 : 0 ≤ c2 := by omega
  rcases Int.lt_or_eq_of_le hb2 with hb0 | hb0
  · have k1 : 0 ≤ (a1 * b2 - a2 * b1) * c2 := Int.mul_nonneg h1 hc2
    rcases Int.lt_or_eq_of_le ha2 with ha0 | ha0
    · have k2 : 0 < (b1 * c2 - b2 * c1) * a2 := Int.mul_pos h2 ha0
      have k3 : 0 < (a1 * c2 - a2 * c1) * b2 := by omega
      exact Int.pos_of_mul_pos_left k3 hb0 
    · subst ha0
      have ha1 : 0 < a1 := by omega
      rcases Int.lt_or_eq_of_le hc2 with hc0 | hc0
      · simp; exact Int.mul_pos ha1 hc0
      · subst hc0
        have hc1 : 0 < c1 := by omega
        have := Int.mul_pos hb0 hc1
        simp at h2; omega
  · subst hb0
    have hb1 : 0 < b1 := by omega
    simp at h1 h2
    have : a2 = 0 := by
      rcases Int.lt_or_eq_of_le ha2 with ha0 | ha0
      · have := Int.mul_pos ha0 hb1
        omega
      · exact ha0.symm
    subst this
    have hc0 : 0 < c2 := Int.pos_of_mul_pos_right h2 hb1
    simp
    exact Int.mul_pos (by omega) hc0
theorem cr_ne {a b : XY} (h : 0 < cr a b) : a ≠ (0, 0) ∧ b ≠ (0, 0) := by
  constructor <;> (rintro rfl; simp [cr] at h)
theorem up_or {e : XY} (h : e ≠ (0, 0)) (hn : ¬ up e) : up (-e.1, -e.2) := by
  obtain ⟨a, b⟩ := e
  unfold up at *
  simp only at *
  by_cases hb : b = 0
  · have : a ≠ 0 := fun ha => h (by rw [ha, hb])
    omega
  · omega
theorem up_not_neg {e : XY} (h : up e) : ¬ up (-e.1, -e.2) := by
  unfold up at *; simp only; omega

/-- the half-plane of a direction as a sign -/
theorem hp_same {a b c : XY} (na : a ≠ (0,0)) (nb : b ≠ (0,0)) (nc : c ≠ (0,0)) (hab : up a ↔ up b) (hbc : up b ↔ up c) (h1 : 0 ≤ cr a b) (h2 : 0 < cr b c) : 0 < cr a c := by
  by_cases ha : up a
  · exact hp ha (hab.1 ha) (hbc.1 (hab.1 ha)) h1 h2
  · have hb := fun h => ha (hab.2 h)
    have hc := fun h => hb (hbc.2 h)
    have := hp (up_or na ha) (up_or nb hb) (up_or nc hc) (by unfold cr at *; simp only at *; grind) (by unfold cr at *; simp only at *; grind)
    unfold cr at *; simp only at *; grind
theorem cr_flip (a b : XY) : cr a b = - cr b a := by unfold cr; grind
theorem hp_opp {a b c : XY} (na : a ≠ (0,0)) (nb : b ≠ (0,0)) (nc : c ≠ (0,0)) (hab : up a ↔ ¬ up b) (hbc : up b ↔ up c) (h1 : cr a b ≤ 0) (h2 : 0 < cr b c) : cr a c < 0 := by
  have e1 : cr (-a.1, -a.2) b = - cr a b := by unfold cr; grind
  have e2 : cr (-a.1, -a.2) c = - cr a c := by unfold cr; grind
  have hna : ((-a.1, -a.2) : XY) ≠ (0,0) := by
    intro h; apply na; obtain ⟨x, y⟩ := a; simp at h; simp; omega
  have hup : up (-a.1, -a.2) ↔ up b := by
    by_cases ha : up a
    · have h1 := up_not_neg ha
      have h2 := hab.1 ha
      exact ⟨fun h => absurd h h1, fun h => absurd h h2⟩
    · have h1 := up_or na ha
      have h2 : up b := Decidable.byContradiction fun h => ha (hab.2 h)
      exact ⟨fun _ => h2, fun _ => h1⟩
  have := hp_same hna nb nc hup hbc (by omega) h2
  omega

section
variable (P : Nat → XY) (n : Nat)
def edge (i : Nat) : XY := sub (P (i + 1)) (P i)
/-- how many of the corners 1 .. k are those at which the way begins to rise -/
def R : Nat → Nat
  | 0 => 0
  | k + 1 => R k + (if up (edge P (k + 1)) ∧ ¬ up (edge P k) then 1 else 0)
def Hh (k : Nat) : Nat := 2 * R P k + (if up (edge P k) then 0 else 1)
theorem H_succ (k : Nat) : Hh P (k + 1) = Hh P k + (if up (edge P k) ↔ up (edge P (k + 1)) then 0 else 1) := by
  unfold Hh
  by_cases h1 : up (edge P k) <;> by_cases h2 : up (edge P (k + 1)) <;> simp [R, h1, h2] <;> omega
theorem H_par (i k : Nat) (h : (Hh P i) % 2 = (Hh P k) % 2) : up (edge P i) ↔ up (edge P k) := by
  unfold Hh at h
  by_cases h1 : up (edge P i) <;> by_cases h2 : up (edge P k) <;> simp [h1, h2] at * <;> omega
theorem H_le (i k : Nat) : Hh P i ≤ Hh P (i + k) := by
  induction k with
  | zero => simp
  | succ k ih =>
    have := H_succ P (i + k)
    have e : i + (k + 1) = i + k + 1 := by omega
    rw [e]; omega
variable {P n}
theorem edge_per (hper : ∀ i, P (i + n) = P i) (i : Nat) : edge P (i + n) = edge P i := by
  unfold edge
  have e : i + n + 1 = (i + 1) + n := by omega
  rw [e, hper, hper]
theorem R_per (hper : ∀ i, P (i + n) = P i) (i : Nat) : R P (i + n) = R P i + R P n := by
  induction i with
  | zero => simp [R]
  | succ i ih =>
    have e : i + 1 + n = (i + n) + 1 := by omega
    rw [e, R, ih, R]
    have e1 : edge P (i + n + 1) = edge P (i + 1) := by
      have := edge_per hper (i + 1); rw [← this]; congr 1; omega
    rw [e1, edge_per hper]
    omega
theorem H_per (hper : ∀ i, P (i + n) = P i) (hR : R P n = 1) (i : Nat) : Hh P (i + n) = Hh P i + 2 := by
  unfold Hh
  rw [R_per hper, edge_per hper, hR]; omega

/-- along one half-turn the directions turn on -/
theorem chain_cr (hl : ∀ i, 0 < cr (edge P i) (edge P (i + 1))) (i k : Nat) (h : Hh P i = Hh P (i + (k + 1))) : 0 < cr (edge P i) (edge P (i + (k + 1))) := by
  have hne : ∀ j, edge P j ≠ (0, 0) := fun j => (cr_ne (hl j)).1
  induction k with
  | zero => exact hl i
  | succ k ih =>
    have h1 := H_le P i (k + 1)
    have h2 := H_succ P (i + (k + 1))
    have e : i + (k + 1) + 1 = i + (k + 1 + 1) := by omega
    rw [e] at h2
    have h3 : Hh P i = Hh P (i + (k + 1)) := by omega
    have := hl (i + (k + 1))
    rw [e] at this
    exact hp_same (hne _) (hne _) (hne _) (H_par P _ _ (by rw [h3])) (H_par P _ _ (by omega)) (Int.le_of_lt (ih h3)) this

/-- the sign along the list: once not above 0, below 0 from then on -/
theorem sign_step (hper : ∀ i, P (i + n) = P i) (hl : ∀ i, 0 < cr (edge P i) (edge P (i + 1))) (hR : R P n = 1) (i k : Nat) (hk : k + 2 < n) (hs : cr (edge P i) (edge P (i + (k + 1))) ≤ 0) :
    cr (edge P i) (edge P (i + (k + 2))) < 0 := by
  have hne : ∀ j, edge P j ≠ (0, 0) := fun j => (cr_ne (hl j)).1
  have hH := H_per hper hR i
  have h1 := H_le P i (k + 1)
  have e : i + (k + 1) + 1 = i + (k + 2) := by omega
  have h2 := H_succ P (i + (k + 1))
  rw [e] at h2
  have h3 := H_le P (i + (k + 2)) (n - (k + 2))
  have e3 : i + (k + 2) + (n - (k + 2)) = i + n := by omega
  rw [e3] at h3
  have hend : Hh P (i + (k + 2)) = Hh P i + 2 → cr (edge P i) (edge P (i + (k + 2))) < 0 := by
    intro h
    have e4 : i + (k + 2) + (n - (k + 2) - 1 + 1) = i + n := by omega
    have := chain_cr hl (i + (k + 2)) (n - (k + 2) - 1) (by rw [e4]; omega)
    rw [e4, edge_per hper] at this
    rw [cr_flip]; omega
  by_cases c0 : Hh P i = Hh P (i + (k + 1))
  · have := chain_cr hl i k c0
    omega
  · by_cases c2 : Hh P (i + (k + 2)) = Hh P i + 2
    · exact hend c2
    · have c1 : Hh P (i + (k + 1)) = Hh P i + 1 := by omega
      have c1' : Hh P (i + (k + 2)) = Hh P i + 1 := by omega
      have hl2 := hl (i + (k + 1))
      rw [e] at hl2
      refine hp_opp (hne _) (hne _) (hne _) ?_ (H_par P _ _ (by rw [c1, c1'])) hs hl2
      have := H_par P (i + (k+1)) i
      unfold Hh at c1
      by_cases u1 : up (edge P i) <;> by_cases u2 : up (edge P (i + (k + 1))) <;> simp [u1, u2] at c1 ⊢ <;> omega

theorem cr_add (d a b c : XY) : cr d (sub c a) = cr d (sub b a) + cr d (sub c b) := by
  unfold cr sub; grind
theorem cr_self (a : XY) : cr a a = 0 := by unfold cr; grind

/-- the local test is enough: every other corner lies strictly to the left of each side -/
theorem local_global (hper : ∀ i, P (i + n) = P i) (hl : ∀ i, 0 < cr (edge P i) (edge P (i + 1))) (hR : R P n = 1) (i k : Nat) (h2 : 2 ≤ k) (hk : k < n) :
    0 < cr (edge P i) (sub (P (i + k)) (P i)) := by
  have hstep : ∀ j, cr (edge P i) (sub (P (i + (j + 1))) (P i)) = cr (edge P i) (sub (P (i + j)) (P i)) + cr (edge P i) (edge P (i + j)) := fun j => cr_add _ _ _ _
  have hneg : ∀ m j, 1 ≤ j → j + m < n → cr (edge P i) (edge P (i + j)) < 0 → cr (edge P i) (edge P (i + (j + m))) < 0 := by
    intro m
    induction m with
    | zero => intro j _ _ h; exact h
    | succ m ih =>
      intro j h1 h2 h
      have := ih j h1 (by omega) h
      have e : j + m = (j + m - 1) + 1 := by omega
      rw [e] at this
      have := sign_step hper hl hR i (j + m - 1) (by omega) (Int.le_of_lt this)
      have e2 : i + (j + m - 1 + 2) = i + (j + (m + 1)) := by omega
      rw [e2] at this
      exact this
  have hF1 : cr (edge P i) (sub (P (i + 1)) (P i)) = 0 := cr_self _
  have hFn : cr (edge P i) (sub (P (i + n)) (P i)) = 0 := by rw [hper]; unfold cr sub; grind
  have hdec : ∀ m j, 1 ≤ j → j + m ≤ n → cr (edge P i) (edge P (i + j)) < 0 → cr (edge P i) (sub (P (i + (j + m))) (P i)) ≤ cr (edge P i) (sub (P (i + j)) (P i)) - m := by
    intro m
    induction m with
    | zero => intro j _ _ _; simp
    | succ m ih =>
      intro j h1 h2 h
      have a := ih j h1 (by omega) h
      have b := hneg m j h1 (by omega) h
      have c := hstep (j + m)
      have e : j + m + 1 = j + (m + 1) := by omega
      rw [e] at c
      omega
  have hmain : ∀ m, 2 + m < n → 0 < cr (edge P i) (sub (P (i + (2 + m))) (P i)) := by
    intro m
    induction m with
    | zero =>
      intro h
      have := hstep 1
      have := hl i
      simp only [Nat.add_zero, Nat.reduceAdd] at *
      omega
    | succ m ih =>
      intro h
      have a := ih (by omega)
      have c := hstep (2 + m)
      have e : 2 + m + 1 = 2 + (m + 1) := by omega
      rw [e] at c
      by_cases hlt : cr (edge P i) (edge P (i + (2 + m))) < 0
      · -- it goes down from there to 0 at n
        have hlast : cr (edge P i) (edge P (i + (2 + (m + 1)))) < 0 := hneg 1 (2 + m) (by omega) (by omega) hlt
        have d := hdec (n - (2 + (m + 1))) (2 + (m + 1)) (by omega) (by omega) hlast
        have e : i + (2 + (m + 1) + (n - (2 + (m + 1)))) = i + n := by omega
        rw [e, hFn] at d
        omega
      · omega
  have e : k = 2 + (k - 2) := by omega
  rw [e]
  exact hmain (k - 2) (by omega)
end
section
variable {P : Nat → XY} {n : Nat}
def ind (P : Nat → XY) (n i : Nat) : Nat := if up (edge P i) ∧ ¬ up (edge P (i + n - 1)) then 1 else 0
def rds (P : Nat → XY) (n : Nat) : Nat → Nat
  | 0 => 0
  | k + 1 => rds P n k + ind P n k
theorem rds_R (hper : ∀ i, P (i + n) = P i) (k : Nat) : rds P n (k + 1) = ind P n 0 + R P k := by
  induction k with
  | zero => simp [rds, R]
  | succ k ih =>
    rw [rds, ih, R]
    have e : k + 1 + n - 1 = k + n := by omega
    unfold ind
    rw [e, edge_per hper]
    omega
theorem rds_n (hper : ∀ i, P (i + n) = P i) (hn : 0 < n) : rds P n n = R P n := by
  obtain ⟨m, rfl⟩ : ∃ m, n = m + 1 := ⟨n - 1, by omega⟩
  rw [rds_R hper, R]
  have e : edge P (m + 1) = edge P 0 := by have := edge_per hper 0; rw [← this]; congr 1; omega
  unfold ind
  rw [e]
  simp only [Nat.zero_add, Nat.add_sub_cancel]
  omega

/-- lexicographic order by height -/
def low (p q : XY) : Prop := p.2 < q.2 ∨ (p.2 = q.2 ∧ p.1 < q.1)
theorem low_up (p q : XY) : low p q ↔ up (sub q p) := by
  unfold low up sub; simp only; omega
theorem low_trans {p q r : XY} (h : low p q) (k : low q r) : low p r := by unfold low at *; omega
theorem low_irrefl (p : XY) : ¬ low p p := by unfold low; omega
theorem low_total (p q : XY) : low p q ∨ p = q ∨ low q p := by
  obtain ⟨a, b⟩ := p; obtain ⟨c, d⟩ := q
  unfold low; simp only [Prod.mk.injEq]; omega

/-- a corner at which the way begins to rise is the least of all -/
theorem rise_least {a b c q : XY} (h1 : 0 < Cross a b q) (h2 : 0 < Cross b c q) (h3 : 0 < Cross a b c) (u2 : up (sub c b)) (u1 : ¬ up (sub b a)) : low b q := by
  rw [low_up]
  rw [Cross_cr] at h1 h2 h3
  -- d1 = b - a falls, d2 = c - b rises, v = q - b
  have k1 : 0 < cr (sub b a) (sub q b) := by
    have : cr (sub b a) (sub q b) = cr (sub b a) (sub q a) := by unfold cr sub; grind
    omega
  have k3 : 0 < cr (sub b a) (sub c b) := by
    have : cr (sub b a) (sub c b) = cr (sub b a) (sub c a) := by unfold cr sub; grind
    omega
  have n1 := (cr_ne k1).1
  have nv := (cr_ne k1).2
  have w := up_or n1 u1
  refine Decidable.byContradiction fun hv => ?_
  have w2 := up_or nv hv
  -- e1 = -d1 , w = -v : e1 < w < d2 < e1
  have m1 : 0 < cr (-(sub b a).1, -(sub b a).2) (-(sub q b).1, -(sub q b).2) := by
    have : cr (-(sub b a).1, -(sub b a).2) (-(sub q b).1, -(sub q b).2) = cr (sub b a) (sub q b) := by unfold cr sub; grind
    omega
  have m2 : 0 < cr (-(sub q b).1, -(sub q b).2) (sub c b) := by
    have : cr (-(sub q b).1, -(sub q b).2) (sub c b) = cr (sub c b) (sub q b) := by unfold cr sub; grind
    omega
  have m3 := hp w w2 u2 (Int.le_of_lt m1) m2
  have : cr (-(sub b a).1, -(sub b a).2) (sub c b) = - cr (sub b a) (sub c b) := by unfold cr sub; grind
  omega

/-- of finitely many corners one is the least -/
theorem exists_low (P : Nat → XY) (n : Nat) (hn : 0 < n) : ∃ m, m < n ∧ ∀ j, j < n → ¬ low (P j) (P m) := by
  induction n with
  | zero => omega
  | succ n ih =>
    by_cases h0 : n = 0
    · subst h0
      exact ⟨0, by omega, fun j hj => by have : j = 0 := by omega
                                         subst this; exact low_irrefl _⟩
    · obtain ⟨m, hm, h⟩ := ih (by omega)
      by_cases hl : low (P n) (P m)
      · refine ⟨n, by omega, fun j hj hh => ?_⟩
        by_cases hjn : j = n
        · subst hjn; exact low_irrefl _ hh
        · exact h j (by omega) (low_trans hh hl)
      · refine ⟨m, by omega, fun j hj hh => ?_⟩
        by_cases hjn : j = n
        · subst hjn; exact hl hh
        · exact h j (by omega) hh

theorem rds_ge (k i : Nat) (hi : i < k) (h : ind P n i = 1) : 1 ≤ rds P n k := by
  induction k with
  | zero => omega
  | succ k ih =>
    rw [rds]
    by_cases e : i = k
    · subst e; omega
    · have := ih (by omega); omega
theorem rds_le (k : Nat) (h : ∀ i j, i < k → j < k → ind P n i = 1 → ind P n j = 1 → i = j) : rds P n k ≤ 1 := by
  induction k with
  | zero => simp [rds]
  | succ k ih =>
    rw [rds]
    have a := ih (fun i j hi hj => h i j (by omega) (by omega))
    by_cases e : ind P n k = 1
    · have : rds P n k = 0 := by
        have hz : ∀ m, m ≤ k → rds P n m = 0 := by
          intro m
          induction m with
          | zero => intro _; rfl
          | succ m ih2 =>
            intro hm
            rw [rds, ih2 (by omega)]
            have : ind P n m ≠ 1 := fun hh => by have := h m k (by omega) (by omega) hh e; omega
            have : ind P n m ≤ 1 := by unfold ind; split <;> omega
            omega
        exact hz k (Nat.le_refl _)
      omega
    · have : ind P n k ≤ 1 := by unfold ind; split <;> omega
      omega

/-- the global test has the local ones, and one round -/
theorem global_local (hper : ∀ i, P (i + n) = P i) (hn : 3 ≤ n) (hg : ∀ i k, 2 ≤ k → k < n → 0 < cr (edge P i) (sub (P (i + k)) (P i))) :
    (∀ i, 0 < cr (edge P i) (edge P (i + 1))) ∧ rds P n n = 1 := by
  have hl : ∀ i, 0 < cr (edge P i) (edge P (i + 1)) := fun i => by
    have := hg i 2 (Nat.le_refl _) (by omega)
    rw [cr_add _ _ (P (i + 1))] at this
    have z : cr (edge P i) (sub (P (i + 1)) (P i)) = 0 := cr_self _
    have z2 : cr (edge P i) (edge P (i + 1)) = cr (edge P i) (sub (P (i + 2)) (P (i + 1))) := rfl
    omega
  refine ⟨hl, ?_⟩
  -- a corner j steps behind i is another one
  have hmod : ∀ i m, P (i + m * n) = P i := by
    intro i m
    induction m with
    | zero => simp
    | succ m ih => rw [show i + (m + 1) * n = (i + m * n) + n by rw [Nat.add_mul]; omega, hper, ih]
  -- the least is unique
  have key : ∀ i, i < n → ind P n i = 1 → ∀ k, 1 ≤ k → k < n → low (P i) (P (i + k)) := by
    intro i hi h k h1 h2
    unfold ind at h
    have h : up (edge P i) ∧ ¬ up (edge P (i + n - 1)) := Decidable.byContradiction fun hh => by rw [if_neg hh] at h; omega
    have ea : P (i + n - 1 + 1) = P i := by rw [show i + n - 1 + 1 = i + n by omega, hper]
    have c3 : 0 < Cross (P (i + n - 1)) (P i) (P (i + 1)) := by
      have := hl (i + n - 1)
      have e2 : P (i + n - 1 + 1 + 1) = P (i + 1) := by rw [show i + n - 1 + 1 + 1 = i + 1 + n by omega, hper]
      unfold edge at this
      rw [ea, e2] at this
      rw [← turn_eq]
      exact this
    have eu : edge P (i + n - 1) = sub (P i) (P (i + n - 1)) := by unfold edge; rw [ea]
    by_cases k1 : k = 1
    · subst k1; rw [low_up]; exact h.1
    · by_cases kl : k = n - 1
      · subst kl
        rw [low_up, show i + (n - 1) = i + n - 1 by omega]
        have hne := (cr_ne (hl (i + n - 1))).1
        rw [eu] at hne
        have := up_or hne (by rw [← eu]; exact h.2)
        have e : (-(sub (P i) (P (i + n - 1))).1, -(sub (P i) (P (i + n - 1))).2) = sub (P (i + n - 1)) (P i) := by
          unfold sub; simp only [Prod.mk.injEq]; omega
        rwa [e] at this
      · have a2 : 0 < Cross (P i) (P (i + 1)) (P (i + k)) := by rw [Cross_cr]; exact hg i k (by omega) h2
        have a1 : 0 < Cross (P (i + n - 1)) (P i) (P (i + k)) := by
          rw [Cross_cr]
          have := hg (i + n - 1) (k + 1) (by omega) (by omega)
          have e3 : P (i + n - 1 + (k + 1)) = P (i + k) := by rw [show i + n - 1 + (k + 1) = i + k + n by omega, hper]
          unfold edge at this
          rw [e3, ea] at this
          exact this
        exact rise_least a1 a2 c3 h.1 (by rw [← eu]; exact h.2)
  have hle : rds P n n ≤ 1 := by
    apply rds_le
    have aux : ∀ i j, i < j → j < n → ind P n i = 1 → ind P n j = 1 → False := by
      intro i j hij hj h1 h2
      have a := key i (by omega) h1 (j - i) (by omega) (by omega)
      have b := key j hj h2 (n - (j - i)) (by omega) (by omega)
      rw [show i + (j - i) = j by omega] at a
      rw [show j + (n - (j - i)) = i + n by omega, hper] at b
      exact low_irrefl _ (low_trans a b)
    intro i j hi hj h1 h2
    rcases Nat.lt_trichotomy i j with h | h | h
    · exact (aux i j h hj h1 h2).elim
    · exact h
    · exact (aux j i h hi h2 h1).elim
  obtain ⟨m, hm, hmin⟩ := exists_low P n (by omega)
  have hper' : ∀ i, P (i % n) = P i := by
    intro i
    have := hmod (i % n) (i / n)
    rw [← this]
    congr 1
    have := Nat.mod_add_div i n
    rw [Nat.mul_comm] at this
    exact this
  have hmin' : ∀ j, ¬ low (P j) (P m) := fun j hj => hmin (j % n) (Nat.mod_lt _ (by omega)) (by rw [hper']; exact hj)
  have i1 : ind P n m = 1 := by
    unfold ind
    rw [if_pos]
    have ea : P (m + n - 1 + 1) = P m := by rw [show m + n - 1 + 1 = m + n by omega, hper]
    refine ⟨?_, ?_⟩
    · have hne := (cr_ne (hl m)).1
      refine Decidable.byContradiction fun hh => ?_
      have := up_or hne hh
      apply hmin' (m + 1)
      rw [low_up]
      have e : (-(edge P m).1, -(edge P m).2) = sub (P m) (P (m + 1)) := by
        unfold edge sub; simp only [Prod.mk.injEq]; omega
      rwa [e] at this
    · intro hh
      apply hmin' (m + n - 1)
      rw [low_up]
      unfold edge at hh
      rwa [ea] at hh
  have := rds_ge n m hm i1
  omega
end

/-- the corner of a list, its number taken round -/
def At (o : List XY) (i : Nat) : XY := o.getD (i % o.length) (0, 0)
theorem At_per (o : List XY) (i : Nat) : At o (i + o.length) = At o i := by
  unfold At; rw [Nat.add_mod_right]
def In (p : XY) : Prop := -5000 ≤ p.1 ∧ p.1 ≤ 5000 ∧ -5000 ≤ p.2 ∧ p.2 ≤ 5000
instance (p : XY) : Decidable (In p) := by unfold In; infer_instance
/-- the program's test -/
def DLoc (o : List XY) : Prop := (∀ i, i < o.length → 0 < turn (At o (i + o.length - 1)) (At o i) (At o (i + 1))) ∧ rds (At o) o.length o.length = 1
/-- the document's test -/
def RGlob (o : List XY) : Prop := ∀ i, i < o.length → ∀ j, j < o.length → j ≠ i → j ≠ (i + 1) % o.length → 0 < Cross (At o i) (At o (i + 1)) (At o j)
theorem At_mod (o : List XY) (i : Nat) : At o (i % o.length) = At o i := by
  unfold At; rw [Nat.mod_mod]
theorem valid_iff (o : List XY) (hn : 3 ≤ o.length) : DLoc o ↔ RGlob o := by
  have hmod1 : ∀ i k, i < o.length → k < o.length → (i + k) % o.length = if i + k < o.length then i + k else i + k - o.length := by
    intro i k h1 h2
    split
    · exact Nat.mod_eq_of_lt (by assumption)
    · rw [Nat.mod_eq_sub_mod (by omega)]; exact Nat.mod_eq_of_lt (by omega)
  constructor
  · rintro ⟨h, hr⟩ i hi j hj h1 h2
    have hl : ∀ i, 0 < cr (edge (At o) i) (edge (At o) (i + 1)) := by
      intro i
      have := h ((i + 1) % o.length) (Nat.mod_lt _ (by omega))
      have e1 : At o ((i + 1) % o.length + o.length - 1) = At o i := by
        rw [← At_mod o i, ← At_mod o ((i + 1) % o.length + o.length - 1)]
        congr 1
        by_cases c : i % o.length + 1 = o.length
        · have : (i + 1) % o.length = 0 := by rw [Nat.add_mod, Nat.mod_eq_of_lt (show 1 < o.length by omega), c, Nat.mod_self]
          rw [this, Nat.mod_eq_of_lt (by omega)]; omega
        · have hlt := Nat.mod_lt i (show 0 < o.length by omega)
          have : (i + 1) % o.length = i % o.length + 1 := by rw [Nat.add_mod, Nat.mod_eq_of_lt (show 1 < o.length by omega)]; exact Nat.mod_eq_of_lt (by omega)
          rw [this, show i % o.length + 1 + o.length - 1 = i % o.length + o.length by omega, Nat.add_mod_right, Nat.mod_mod]
      have e2 : At o ((i + 1) % o.length + 1) = At o (i + 1 + 1) := by
        rw [← At_mod o (i + 1 + 1), ← At_mod o ((i + 1) % o.length + 1)]
        congr 1
        rw [Nat.mod_add_mod]
      rw [e1, e2, At_mod] at this
      exact this
    have hR := rds_n (At_per o) (by omega)
    rw [hr] at hR
    rw [Cross_cr]
    have hg := local_global (At_per o) hl hR.symm i
    by_cases c : i < j
    · have := hg (j - i) (by
        have := hmod1 i 1 hi (by omega)
        by_cases c2 : j = i + 1
        · rw [if_pos (by omega)] at this; omega
        · omega) (by omega)
      rwa [show i + (j - i) = j by omega] at this
    · have := hg (j + o.length - i) (by
        have := hmod1 i 1 hi (by omega)
        by_cases c2 : i + 1 < o.length
        · omega
        · rw [if_neg c2] at this; omega) (by omega)
      rwa [show i + (j + o.length - i) = j + o.length by omega, At_per] at this
  · intro h
    have hg : ∀ i k, 2 ≤ k → k < o.length → 0 < cr (edge (At o) i) (sub (At o (i + k)) (At o i)) := by
      intro i k h2 hk
      have hi := Nat.mod_lt i (show 0 < o.length by omega)
      have e1 : At o (i % o.length + 1) = At o (i + 1) := by
        rw [← At_mod o (i + 1), ← At_mod o (i % o.length + 1)]; congr 1; rw [Nat.mod_add_mod]
      have e2 : At o ((i % o.length + k) % o.length) = At o (i + k) := by
        rw [← At_mod o (i + k)]; congr 1; rw [Nat.mod_add_mod]
      have m1 := hmod1 (i % o.length) 1 hi (by omega)
      have mk := hmod1 (i % o.length) k hi hk
      have := h (i % o.length) hi ((i % o.length + k) % o.length) (Nat.mod_lt _ (by omega))
        (by rw [mk]; split <;> omega) (by rw [mk, m1]; split <;> split <;> omega)
      rw [e1, e2, At_mod, Cross_cr] at this
      exact this
    have := global_local (At_per o) hn hg
    refine ⟨fun i hi => ?_, this.2⟩
    have := this.1 (i + o.length - 1)
    unfold edge at this
    rw [show i + o.length - 1 + 1 = i + o.length by omega, At_per, show i + o.length + 1 = i + 1 + o.length by omega, At_per] at this
    exact this
end Go.Proofs.YthabpgclnbmnpaaGreatDoor.Geo
namespace Go.Proofs.YthabpgclnbmnpaaGreatDoor.Geo
def X (o : List XY) (j : Nat) : XY := o[j]?.getD (0, 0)
theorem At_lt (o : List XY) {i : Nat} (h : i < o.length) : At o i = X o i := by
  unfold At X; rw [Nat.mod_eq_of_lt h]; simp
theorem At_last (o : List XY) {i : Nat} (h : i + 1 = o.length) : At o (i + 1) = X o 0 := by
  unfold At X; rw [h, Nat.mod_self]; simp
instance (p q : XY) : Decidable (low p q) := by unfold low; infer_instance
def lowIdx (o : List XY) : Nat → Nat
  | 0 => 0
  | k + 1 => if low (X o k) (X o (lowIdx o k)) then k else lowIdx o k
theorem lowIdx_lt (o : List XY) (k : Nat) (h : 0 < k) : lowIdx o k < k := by
  induction k with
  | zero => omega
  | succ k ih =>
    rw [lowIdx]
    split
    · omega
    · by_cases h0 : k = 0
      · subst h0; simp [lowIdx]
      · have := ih (by omega); omega
theorem lowIdx_least (o : List XY) (k : Nat) : ∀ j, j < k → ¬ low (X o j) (X o (lowIdx o k)) := by
  induction k with
  | zero => intro j hj; omega
  | succ k ih =>
    intro j hj
    rw [lowIdx]
    by_cases h : low (X o k) (X o (lowIdx o k))
    · rw [if_pos h]
      by_cases e : j = k
      · subst e; exact low_irrefl _
      · exact fun hh => ih j (by omega) (low_trans hh h)
    · rw [if_neg h]
      by_cases e : j = k
      · subst e; exact h
      · exact ih j (by omega)
/-- the canonical form -/
def canon (o : List XY) : List XY := o.drop (lowIdx o o.length) ++ o.take (lowIdx o o.length)
theorem canon_length (o : List XY) : (canon o).length = o.length := by
  unfold canon; simp
  have : lowIdx o o.length ≤ o.length := by
    by_cases h : o.length = 0
    · rw [h]; simp [lowIdx]
    · have := lowIdx_lt o o.length (by omega); omega
  omega
theorem canon_get (o : List XY) (i : Nat) (h : i < o.length) : X (canon o) i = At o (lowIdx o o.length + i) := by
  have hk := lowIdx_lt o o.length (by omega)
  unfold X canon At
  rw [List.getElem?_append]
  simp only [List.length_drop]
  by_cases c : i < o.length - lowIdx o o.length
  · rw [if_pos c, List.getElem?_drop, Nat.mod_eq_of_lt (by omega)]; simp
  · rw [if_neg c, List.getElem?_take, if_pos (by omega)]
    have : (lowIdx o o.length + i) % o.length = i - (o.length - lowIdx o o.length) := by
      rw [Nat.mod_eq_sub_mod (by omega), Nat.mod_eq_of_lt (by omega)]; omega
    rw [this]; simp

def areaK (o : List XY) : Nat → Int
  | 0 => 0
  | k + 1 => areaK o k + cr (At o k) (At o (k + 1))
/-- the fan: the triangles ahead of corner k + 2 -/
def fanK (o : List XY) : Nat → Int
  | 0 => 0
  | k + 1 => fanK o k + Cross (X o 0) (X o (k + 1)) (X o (k + 2))
theorem fan_area (o : List XY) (k : Nat) (h : k + 2 ≤ o.length) : fanK o k = areaK o (k + 1) - cr (X o 0) (X o (k + 1)) := by
  induction k with
  | zero =>
    simp only [fanK, areaK]
    rw [At_lt o (by omega), At_lt o (by omega)]; omega
  | succ k ih =>
    have e1 : areaK o (k + 1 + 1) = areaK o (k + 1) + cr (At o (k + 1)) (At o (k + 1 + 1)) := rfl
    rw [fanK, ih (by omega), e1, At_lt o (i := k + 1) (by omega), At_lt o (i := k + 1 + 1) (by omega)]
    have : Cross (X o 0) (X o (k + 1)) (X o (k + 2)) = cr (X o (k + 1)) (X o (k + 2)) + cr (X o 0) (X o (k + 1)) - cr (X o 0) (X o (k + 2)) := by
      unfold Cross cr; grind
    rw [this]
    have e : k + 1 + 1 = k + 2 := rfl
    rw [e]; omega
theorem area_fan (o : List XY) (h : 2 ≤ o.length) : areaK o o.length = fanK o (o.length - 2) := by
  have hf := fan_area o (o.length - 2) (by omega)
  rw [hf]
  obtain ⟨m, hm⟩ : ∃ m, o.length = m + 1 := ⟨o.length - 1, by omega⟩
  rw [show o.length - 2 + 1 = m by omega, hm, areaK, At_lt o (i := m) (by omega), At_last o (by omega)]
  have : cr (X o m) (X o 0) = - cr (X o 0) (X o m) := cr_flip _ _
  omega
end Go.Proofs.YthabpgclnbmnpaaGreatDoor.Geo
namespace Go.Proofs.YthabpgclnbmnpaaGreatDoor.Geo
/-- the root of n, rounded down -/
def fsq : Nat → Nat
  | 0 => 0
  | n + 1 => if (fsq n + 1) * (fsq n + 1) ≤ n + 1 then fsq n + 1 else fsq n
theorem fsq_spec (n : Nat) : fsq n * fsq n ≤ n ∧ n < (fsq n + 1) * (fsq n + 1) := by
  induction n with
  | zero => simp [fsq]
  | succ n ih =>
    rw [fsq]
    by_cases h : (fsq n + 1) * (fsq n + 1) ≤ n + 1
    · rw [if_pos h]
      refine ⟨h, ?_⟩
      have : (fsq n + 1 + 1) * (fsq n + 1 + 1) = (fsq n + 1) * (fsq n + 1) + 2 * fsq n + 3 := by grind
      omega
    · rw [if_neg h]; omega
theorem sq_mono {a b : Nat} (h : a ≤ b) : a * a ≤ b * b := Nat.mul_le_mul h h
theorem fsq_unique {n r : Nat} (h1 : r * r ≤ n) (h2 : n < (r + 1) * (r + 1)) : r = fsq n := by
  have := fsq_spec n
  rcases Nat.lt_trichotomy r (fsq n) with h | h | h
  · have := sq_mono (show r + 1 ≤ fsq n from h); omega
  · exact h
  · have := sq_mono (show fsq n + 1 ≤ r from h); omega
/-- the root of n, rounded up -/
def csq (n : Nat) : Nat := if fsq n * fsq n = n then fsq n else fsq n + 1
theorem csq_spec (n : Nat) : n ≤ csq n * csq n ∧ ∀ d, n ≤ d * d → csq n ≤ d := by
  have h := fsq_spec n
  unfold csq
  by_cases e : fsq n * fsq n = n
  · rw [if_pos e]
    refine ⟨by omega, fun d hd => ?_⟩
    refine Decidable.byContradiction fun hc => ?_
    have := sq_mono (show d + 1 ≤ fsq n by omega)
    have e2 : (d + 1) * (d + 1) = d * d + 2 * d + 1 := by grind
    omega
  · rw [if_neg e]
    refine ⟨by omega, fun d hd => ?_⟩
    refine Decidable.byContradiction fun hc => ?_
    have := sq_mono (show d ≤ fsq n by omega)
    omega
theorem csq_unique {n d : Nat} (h1 : n ≤ d * d) (h2 : ∀ e, e < d → e * e < n) : d = csq n := by
  have := csq_spec n
  have a := this.2 d h1
  by_cases h : csq n < d
  · have := h2 _ h; omega
  · omega
theorem csq_mono {a b : Nat} (h : a ≤ b) : csq a ≤ csq b := (csq_spec a).2 _ (Nat.le_trans h (csq_spec b).1)
theorem fsq_of_csq (n : Nat) : fsq n = if csq n * csq n = n then csq n else csq n - 1 := by
  have h := fsq_spec n
  unfold csq
  by_cases e : fsq n * fsq n = n
  · rw [if_pos e, if_pos e]
  · rw [if_neg e, if_neg (by omega)]; omega
theorem fsq_le (n k : Nat) (h : n < (k + 1) * (k + 1)) : fsq n ≤ k := by
  have := fsq_spec n
  refine Decidable.byContradiction fun hc => ?_
  have := sq_mono (show k + 1 ≤ fsq n by omega)
  omega
theorem csq_le (n k : Nat) (h : n ≤ k * k) : csq n ≤ k := (csq_spec n).2 _ h
theorem csq_zero : csq 0 = 0 := by simp [csq, fsq]
theorem csq_pos (n : Nat) (h : 0 < n) : 0 < csq n := by
  have := (csq_spec n).1
  refine Decidable.byContradiction fun hc => ?_
  have e : csq n = 0 := by omega
  rw [e] at this
  omega
theorem csq_self (n : Nat) : csq n ≤ n := (csq_spec n).2 _ (by
  by_cases h : n = 0
  · subst h; simp
  · exact Nat.le_mul_of_pos_right _ (by omega))

/-- the reference's root: bit by bit -/
def rootK (n : Nat) : Nat → Nat → Nat
  | 0, r => r
  | b + 1, r => rootK n b (if (r + 2 ^ b) * (r + 2 ^ b) ≤ n then r + 2 ^ b else r)
theorem rootK_spec (n b r : Nat) (h1 : r * r ≤ n) (h2 : n < (r + 2 ^ b) * (r + 2 ^ b)) : rootK n b r = fsq n := by
  induction b generalizing r with
  | zero =>
    rw [rootK]
    exact fsq_unique h1 (by simpa using h2)
  | succ b ih =>
    rw [rootK]
    split
    · next h => exact ih _ h (by rw [Nat.add_assoc, ← Nat.two_mul, ← Nat.pow_succ']; exact h2)
    · next h => exact ih _ h1 (by omega)
end Go.Proofs.YthabpgclnbmnpaaGreatDoor.Geo
