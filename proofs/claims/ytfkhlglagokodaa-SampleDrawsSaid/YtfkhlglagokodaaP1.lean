/- Plain: how many choices there are, their sums, and what follows from each other. -/
namespace Go.Proofs.Ytfkhlglagokodaa.Pl

/-- C(n, k) -/
def ch : Nat → Nat → Nat
  | _, 0 => 1
  | 0, _ + 1 => 0
  | n + 1, k + 1 => ch n k + ch n (k + 1)
theorem ch_0 (n : Nat) : ch n 0 = 1 := by cases n <;> rfl
theorem ch_0s (k : Nat) : ch 0 (k + 1) = 0 := rfl
theorem ch_ss (n k : Nat) : ch (n + 1) (k + 1) = ch n k + ch n (k + 1) := rfl
theorem ch_lt {n : Nat} : ∀ {k : Nat}, n < k → ch n k = 0 := by
  induction n with
  | zero => intro k h; obtain ⟨j, rfl⟩ : ∃ j, k = j + 1 := ⟨k - 1, by omega⟩; rfl
  | succ n ih => intro k h; obtain ⟨j, rfl⟩ : ∃ j, k = j + 1 := ⟨k - 1, by omega⟩; rw [ch_ss, ih (by omega), ih (by omega)]
theorem ch_self (n : Nat) : ch n n = 1 := by
  induction n with
  | zero => rfl
  | succ n ih => rw [ch_ss, ih, ch_lt (by omega)]
theorem ch_pos {n : Nat} : ∀ {k : Nat}, k ≤ n → 0 < ch n k := by
  induction n with
  | zero => intro k h; obtain rfl : k = 0 := by omega
            decide
  | succ n ih =>
    intro k h
    cases k with
    | zero => rw [ch_0]; omega
    | succ k => rw [ch_ss]; have := ih (k := k) (by omega); omega
theorem ch_sym {n : Nat} : ∀ {k : Nat}, k ≤ n → ch n (n - k) = ch n k := by
  induction n with
  | zero => intro k h; obtain rfl : k = 0 := by omega
            rfl
  | succ n ih =>
    intro k h
    cases k with
    | zero => rw [ch_0]; exact ch_self _
    | succ k =>
      by_cases e : k = n
      · subst e; rw [Nat.sub_self, ch_0, ch_self]
      · have e1 : n + 1 - (k + 1) = (n - (k + 1)) + 1 := by omega
        rw [e1, ch_ss, ch_ss, ih (k := k + 1) (by omega)]
        have e2 : n - (k + 1) + 1 = n - k := by omega
        rw [e2, ih (k := k) (by omega)]
        omega
theorem ch_mul0 (n : Nat) : ∀ k : Nat, (k + 1) * ch n (k + 1) + k * ch n k = n * ch n k := by
  induction n with
  | zero =>
    intro k
    cases k with
    | zero => simp [ch]
    | succ k => rw [ch_0s, ch_0s]; simp
  | succ n ih =>
    intro k
    cases k with
    | zero =>
      have := ih 0
      rw [ch_ss, ch_0, ch_0]
      rw [ch_0] at this
      omega
    | succ k =>
      have h1 := ih (k + 1)
      have h2 := ih k
      rw [ch_ss, ch_ss]
      generalize ch n (k + 1 + 1) = C at *
      generalize ch n (k + 1) = A at *
      generalize ch n k = B at *
      have e1 : (k + 1 + 1) * (A + C) = (k + 1) * A + A + (k + 1 + 1) * C := by rw [Nat.mul_add, Nat.add_mul (k + 1) 1 A, Nat.one_mul]
      have e2 : (k + 1) * (B + A) = k * B + B + (k + 1) * A := by rw [Nat.mul_add, Nat.add_mul k 1 B, Nat.one_mul]
      have e3 : (n + 1) * (B + A) = n * B + n * A + (B + A) := by rw [Nat.add_mul, Nat.one_mul, Nat.mul_add]
      omega
/-- one factor more -/
theorem ch_mul {n k : Nat} (h : k ≤ n) : ch n k * (n - k) = ch n (k + 1) * (k + 1) := by
  have := ch_mul0 n k
  obtain ⟨j, rfl⟩ : ∃ j, n = j + k := ⟨n - k, by omega⟩
  rw [Nat.add_sub_cancel, Nat.mul_comm, Nat.mul_comm _ (k + 1)]
  rw [Nat.add_mul j k] at this
  omega

/-- a row of Pascal's triangle -/
def nx (p : Nat) : List Nat → List Nat
  | [] => [p]
  | x :: l => (p + x) :: nx x l
def rw' : Nat → List Nat
  | 0 => [1]
  | n + 1 => nx 0 (rw' n)
theorem nx_get (l : List Nat) : ∀ (p k : Nat), (nx p l).getD k 0 = (p :: l).getD k 0 + l.getD k 0 := by
  induction l with
  | nil => intro p k; cases k <;> rfl
  | cons x l ih => intro p k; cases k with
    | zero => rfl
    | succ k => exact ih x k
theorem rw_get (n : Nat) : ∀ k, (rw' n).getD k 0 = ch n k := by
  induction n with
  | zero => intro k; cases k with
    | zero => rfl
    | succ k => cases k <;> rfl
  | succ n ih =>
    intro k
    show (nx 0 (rw' n)).getD k 0 = _
    rw [nx_get, ih]
    cases k with
    | zero => rw [ch_0, ch_0]; rfl
    | succ k => rw [ch_ss, ← ih k]; rfl
/-- the greatest of them up to 60 -/
def big : Nat := 118264581564861424
theorem rw_60 : (rw' 60).all (fun x => decide (x ≤ 118264581564861424)) = true := by decide +kernel
theorem ch_60 (k : Nat) : ch 60 k ≤ 118264581564861424 := by
  rw [← rw_get]
  have := rw_60
  rw [List.all_eq_true] at this
  rw [List.getD_eq_getElem?_getD]
  cases e : (rw' 60)[k]? with
  | none => exact Nat.zero_le _
  | some x => have := this x (List.mem_of_getElem? e); exact of_decide_eq_true this
theorem ch_up (n k : Nat) : ch n k ≤ ch (n + 1) k := by
  cases k with
  | zero => rw [ch_0, ch_0]; omega
  | succ k => rw [ch_ss]; omega
theorem ch_mono {n m : Nat} (h : n ≤ m) (k : Nat) : ch n k ≤ ch m k := by
  obtain ⟨j, rfl⟩ : ∃ j, m = n + j := ⟨m - n, by omega⟩
  induction j with
  | zero => exact Nat.le_refl _
  | succ j ih => exact Nat.le_trans (ih (by omega)) (ch_up _ _)
theorem ch_le {n : Nat} (h : n ≤ 60) (k : Nat) : ch n k ≤ 118264581564861424 := Nat.le_trans (ch_mono h k) (ch_60 k)

/-- the sum of the first k -/
def sm (f : Nat → Nat) : Nat → Nat
  | 0 => 0
  | k + 1 => sm f k + f k
theorem sm_cons (f : Nat → Nat) : ∀ k, sm f (k + 1) = f 0 + sm (fun i => f (i + 1)) k := by
  intro k
  induction k with
  | zero => show 0 + f 0 = f 0 + 0; omega
  | succ k ih => show sm f (k + 1) + f (k + 1) = f 0 + (sm (fun i => f (i + 1)) k + f (k + 1)); omega
theorem sm_ext {f g : Nat → Nat} {k : Nat} (h : ∀ i, i < k → f i = g i) : sm f k = sm g k := by
  induction k with
  | zero => rfl
  | succ k ih => show sm f k + f k = sm g k + g k; rw [ih (fun i hi => h i (by omega)), h k (by omega)]
theorem sm_add (f g : Nat → Nat) (k : Nat) : sm (fun i => f i + g i) k = sm f k + sm g k := by
  induction k with
  | zero => rfl
  | succ k ih => show sm (fun i => f i + g i) k + (f k + g k) = sm f k + f k + (sm g k + g k); omega
theorem sm_le (f : Nat → Nat) {a b : Nat} (h : a ≤ b) : sm f a ≤ sm f b := by
  obtain ⟨j, rfl⟩ : ∃ j, b = a + j := ⟨b - a, by omega⟩
  induction j with
  | zero => exact Nat.le_refl _
  | succ j ih => exact Nat.le_trans (ih (by omega)) (Nat.le_add_right _ _)
theorem sm_one (f : Nat → Nat) {i k : Nat} (h : i < k) : f i ≤ sm f k := by
  have := sm_le f (show i + 1 ≤ k from h)
  have e : sm f (i + 1) = sm f i + f i := rfl
  omega
theorem sm_zero {f : Nat → Nat} {a b : Nat} (h : a ≤ b) (hz : ∀ i, a ≤ i → i < b → f i = 0) : sm f b = sm f a := by
  obtain ⟨j, rfl⟩ : ∃ j, b = a + j := ⟨b - a, by omega⟩
  induction j with
  | zero => rfl
  | succ j ih =>
    show sm f (a + j) + f (a + j) = _
    rw [ih (by omega) (fun i h1 h2 => hz i h1 (by omega)), hz (a + j) (by omega) (by omega)]
    rfl

/-- samples with i bad pieces, of b bad and m good ones -/
def wy (b m s i : Nat) : Nat := ch b i * ch m (s - i)
/-- all samples are counted once -/
theorem wy_all (m : Nat) : ∀ b s : Nat, sm (wy b m s) (s + 1) = ch (b + m) s := by
  intro b
  induction b with
  | zero =>
    intro s
    rw [sm_cons, Nat.zero_add]
    have : sm (fun i => wy 0 m s (i + 1)) s = sm (fun _ => 0) s := sm_ext fun i _ => by show ch 0 (i + 1) * _ = 0; rw [ch_0s, Nat.zero_mul]
    rw [this]
    have z : ∀ k, sm (fun _ => 0) k = 0 := fun k => by induction k with
      | zero => rfl
      | succ k ih => show sm (fun _ => 0) k + 0 = 0; omega
    rw [z]
    show ch 0 0 * ch m (s - 0) + 0 = _
    rw [ch_0, Nat.one_mul]
    rfl
  | succ b ih =>
    intro s
    cases s with
    | zero => show 0 + ch (b + 1) 0 * ch m 0 = ch (b + 1 + m) 0; rw [ch_0, ch_0, ch_0]
    | succ t =>
      rw [sm_cons]
      have e : sm (fun i => wy (b + 1) m (t + 1) (i + 1)) (t + 1) = sm (fun i => wy b m t i + wy b m (t + 1) (i + 1)) (t + 1) := by
        refine sm_ext fun i _ => ?_
        show ch (b + 1) (i + 1) * ch m (t + 1 - (i + 1)) = ch b i * ch m (t - i) + ch b (i + 1) * ch m (t + 1 - (i + 1))
        have e2 : t + 1 - (i + 1) = t - i := by omega
        rw [ch_ss, e2, Nat.add_mul]
      rw [e, sm_add, ih t]
      have h2 := ih (t + 1)
      rw [sm_cons] at h2
      have e3 : b + 1 + m = (b + m) + 1 := by omega
      rw [e3, ch_ss, ← h2]
      show ch (b + 1) 0 * _ + _ = _ + (ch b 0 * _ + _)
      rw [ch_0, ch_0]
      omega
theorem wy_le {b m s i : Nat} (h : i ≤ s) : wy b m s i ≤ ch (b + m) s := by
  rw [← wy_all]; exact sm_one _ (by omega)
theorem wy_part {b m s k : Nat} (h : k ≤ s + 1) : sm (wy b m s) k ≤ ch (b + m) s := by
  rw [← wy_all]; exact sm_le _ h
/-- with few bad pieces all are accepted -/
theorem wy_few {b m s a : Nat} (h : b ≤ a) (ha : a ≤ s) : sm (wy b m s) (a + 1) = ch (b + m) s := by
  rw [← wy_all]
  refine (sm_zero (by omega) fun i h1 _ => ?_).symm
  show ch b i * _ = 0
  rw [ch_lt (by omega), Nat.zero_mul]
/-- one more bad piece: what is lost -/
theorem wy_fall {b m s : Nat} : ∀ {a : Nat}, a < s → sm (wy b (m + 1) s) (a + 1) = sm (wy (b + 1) m s) (a + 1) + ch b a * ch m (s - a - 1) := by
  intro a
  induction a with
  | zero =>
    intro h
    show 0 + ch b 0 * ch (m + 1) (s - 0) = 0 + ch (b + 1) 0 * ch m (s - 0) + ch b 0 * ch m (s - 0 - 1)
    obtain ⟨t, rfl⟩ : ∃ t, s = t + 1 := ⟨s - 1, by omega⟩
    rw [ch_0, ch_0]
    show 0 + 1 * ch (m + 1) (t + 1) = 0 + 1 * ch m (t + 1) + 1 * ch m t
    rw [ch_ss]
    omega
  | succ a ih =>
    intro h
    have h1 := ih (by omega)
    show sm (wy b (m + 1) s) (a + 1) + ch b (a + 1) * ch (m + 1) (s - (a + 1)) = sm (wy (b + 1) m s) (a + 1) + ch (b + 1) (a + 1) * ch m (s - (a + 1)) + ch b (a + 1) * ch m (s - (a + 1) - 1)
    rw [h1]
    obtain ⟨t, rfl⟩ : ∃ t, s = t + (a + 1) + 1 := ⟨s - (a + 2), by omega⟩
    have e1 : t + (a + 1) + 1 - a - 1 = t + 1 := by omega
    have e2 : t + (a + 1) + 1 - (a + 1) = t + 1 := by omega
    have e3 : t + 1 - 1 = t := by omega
    rw [e1, e2, e3, ch_ss, ch_ss, Nat.mul_add, Nat.add_mul]
    omega
theorem wy_less {b m s a : Nat} (h : a < s) : sm (wy (b + 1) m s) (a + 1) ≤ sm (wy b (m + 1) s) (a + 1) := by
  rw [wy_fall h]; exact Nat.le_add_right _ _

/-- two fractions of one whole, both in lowest terms, are compared by their first numbers -/
theorem frac_le {x y A d e x' A' y' A'' : Nat} (hA : 0 < A) (hx : x = x' * d) (h1 : A = A' * d) (hy : y = y' * e) (h2 : A = A'' * e) :
    (x' * A'' ≤ y' * A' ↔ x ≤ y) := by
  have hd : 0 < d := Nat.pos_of_ne_zero fun z => by rw [z, Nat.mul_zero] at h1; omega
  have he : 0 < e := Nat.pos_of_ne_zero fun z => by rw [z, Nat.mul_zero] at h2; omega
  have p1 : x' * A'' * (d * e) = x * A := by rw [hx, h2]; simp only [Nat.mul_left_comm, Nat.mul_comm]
  have p2 : y' * A' * (d * e) = y * A := by rw [hy, h1]; simp only [Nat.mul_left_comm, Nat.mul_comm]
  constructor
  · intro h
    have := Nat.mul_le_mul_right (d * e) h
    rw [p1, p2] at this
    exact Nat.le_of_mul_le_mul_right this hA
  · intro h
    have := Nat.mul_le_mul_right A h
    rw [← p1, ← p2] at this
    exact Nat.le_of_mul_le_mul_right this (Nat.mul_pos hd he)
end Go.Proofs.Ytfkhlglagokodaa.Pl
