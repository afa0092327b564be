/- Plain: amounts, rounding, sums of weights, the shares of an amount. It imports nothing of the program. -/
namespace Go.Proofs.YtdihnbjmeppbcaaDoor.Pl

def inB (a x b : Int) : Bool := decide (a ≤ x) && decide (x ≤ b)
theorem inB_true {a x b : Int} : inB a x b = true ↔ a ≤ x ∧ x ≤ b := by unfold inB; rw [Bool.and_eq_true, decide_eq_true_iff, decide_eq_true_iff]
theorem inB_false {a x b : Int} : inB a x b = false ↔ ¬ (a ≤ x ∧ x ≤ b) := by rw [← inB_true, Bool.not_eq_true]
/-- an amount -/
def am (x : Int) : Bool := inB (-1099511627776) x 1099511627776
/-- a weight -/
def wt (x : Int) : Bool := inB 0 x 10000
/-- a day -/
def dy (x : Int) : Bool := inB 0 x 100000
/-- half up -/
def hu (a b : Int) : Int := (2 * a + b) / (2 * b)
/-- the first n values of a function -/
def tab {α : Type} (f : Nat → α) (n : Nat) : List α := (List.range n).map f
theorem tab_zero {α : Type} (f : Nat → α) : tab f 0 = [] := rfl
theorem tab_succ {α : Type} (f : Nat → α) (n : Nat) : tab f (n + 1) = tab f n ++ [f n] := by
  unfold tab; rw [List.range_succ, List.map_append]; rfl
theorem tab_len {α : Type} (f : Nat → α) (n : Nat) : (tab f n).length = n := by unfold tab; simp
theorem tab_get {α : Type} (f : Nat → α) {n k : Nat} (h : k < (tab f n).length) : (tab f n)[k] = f k := by simp [tab]
theorem tab_getD {α : Type} (f : Nat → α) (d : α) {n k : Nat} (h : k < n) : (tab f n).getD k d = f k := by
  rw [List.getD_eq_getElem?_getD, List.getElem?_eq_getElem (by rw [tab_len]; exact h), tab_get]; rfl
/-- the sum of the first n values -/
def sm (f : Nat → Int) : Nat → Int
  | 0 => 0
  | n + 1 => sm f n + f n
theorem sm_bound {f : Nat → Int} {n : Nat} {lo hi : Int} (h : ∀ i, i < n → lo ≤ f i ∧ f i ≤ hi) : (n : Int) * lo ≤ sm f n ∧ sm f n ≤ (n : Int) * hi := by
  induction n with
  | zero => simp [sm]
  | succ n ih =>
    have h1 := ih (fun i hi => h i (by omega))
    have h2 := h n (by omega)
    have e1 : ((n + 1 : Nat) : Int) * lo = (n : Int) * lo + lo := by rw [Int.natCast_add, Int.add_mul]; simp
    have e2 : ((n + 1 : Nat) : Int) * hi = (n : Int) * hi + hi := by rw [Int.natCast_add, Int.add_mul]; simp
    rw [e1, e2]
    simp only [sm]
    omega
theorem sm_mono {f : Nat → Int} {n : Nat} (h : ∀ i, i < n → 0 ≤ f i) : ∀ k, k ≤ n → 0 ≤ sm f k ∧ sm f k ≤ sm f n := by
  induction n with
  | zero => intro k hk; obtain rfl : k = 0 := by omega
            simp [sm]
  | succ n ih =>
    intro k hk
    have h1 := ih (fun i hi => h i (by omega))
    have h2 := h n (by omega)
    rcases Nat.lt_or_eq_of_le hk with h' | rfl
    · have := h1 k (by omega)
      have := h1 n (Nat.le_refl _)
      simp only [sm]; omega
    · have := h1 n (Nat.le_refl _)
      simp only [sm]; omega
theorem sm_ext {f g : Nat → Int} {n : Nat} (h : ∀ i, i < n → f i = g i) : sm f n = sm g n := by
  induction n with
  | zero => rfl
  | succ n ih => simp only [sm]; rw [ih (fun i hi => h i (by omega)), h n (by omega)]
/-- element k of a list of numbers -/
def el (l : List Int) (k : Nat) : Int := l.getD k 0
theorem el_get {l : List Int} {k : Nat} (h : k < l.length) : el l k = l[k] := by
  unfold el; rw [List.getD_eq_getElem?_getD, List.getElem?_eq_getElem h]; rfl
/-- the rest of a division as the machine does it, and the quotient rounded down -/
theorem down_neg {a b : Int} (hb : 0 < b) (h : a.tmod b < 0) : a.tdiv b - 1 = a / b := by
  have h1 := Int.tmod_add_mul_tdiv a b
  have h2 : -b < a.tmod b := Int.lt_tmod_of_pos a hb
  have : a / b = a.tdiv b - 1 := by
    rw [Int.ediv_eq_iff_of_pos hb]
    rw [Int.mul_comm] at h1
    constructor
    · rw [Int.sub_mul]; omega
    · rw [Int.sub_mul]; omega
  exact this.symm
theorem down_pos {a b : Int} (hb : 0 < b) (h : ¬ a.tmod b < 0) : a.tdiv b = a / b := by
  have h1 := Int.tmod_add_mul_tdiv a b
  have h2 : a.tmod b < b := Int.tmod_lt_of_pos a hb
  symm
  rw [Int.ediv_eq_iff_of_pos hb]
  rw [Int.mul_comm] at h1
  constructor <;> omega

/-- the weights are valid -/
def wok (l : List Int) : Bool := l.all wt
theorem wok_get {l : List Int} (h : wok l = true) {k : Nat} (hk : k < l.length) : 0 ≤ el l k ∧ el l k ≤ 10000 := by
  rw [el_get hk]
  exact inB_true.1 (List.all_eq_true.1 h _ (List.getElem_mem hk))
/-- the sum of the first k weights -/
def cu (l : List Int) (k : Nat) : Int := sm (el l) k
def al (l : List Int) : Int := cu l l.length
/-- what Split answers -/
def spOk (c : Int) (l : List Int) : Bool := am c && (wok l && decide (al l ≠ 0))
def spE (c : Int) (l : List Int) : Int := if 100 < l.length then 4 else if spOk c l = true then 0 else 2
def shr (c : Int) (l : List Int) (k : Nat) : Int := c * cu l (k + 1) / al l - c * cu l k / al l
def spV (c : Int) (l : List Int) : List Int := if spE c l = 0 then tab (shr c l) l.length else []
theorem spE_big {c : Int} {l : List Int} (h : 100 < l.length) : spE c l = 4 := if_pos h
theorem spE_ok {c : Int} {l : List Int} (h : l.length ≤ 100) (h2 : spOk c l = true) : spE c l = 0 := by unfold spE; rw [if_neg (by omega), if_pos h2]
theorem spE_no {c : Int} {l : List Int} (h : l.length ≤ 100) (h2 : spOk c l = false) : spE c l = 2 := by unfold spE; rw [if_neg (by omega), if_neg (by rw [h2]; decide)]
theorem spE_zero {c : Int} {l : List Int} (h : spE c l = 0) : l.length ≤ 100 ∧ spOk c l = true := by
  unfold spE at h
  split at h
  · omega
  · split at h
    · exact ⟨by omega, by assumption⟩
    · omega
structure Sp (c : Int) (l : List Int) : Prop where
  len : l.length ≤ 100
  a1 : -1099511627776 ≤ c
  a2 : c ≤ 1099511627776
  w : wok l = true
  pos : 0 < al l
  top : al l ≤ 1000000
theorem cu_le {l : List Int} (h : wok l = true) {k : Nat} (hk : k ≤ l.length) : 0 ≤ cu l k ∧ cu l k ≤ al l := sm_mono (fun _ hi => (wok_get h hi).1) k hk
theorem cu_top {l : List Int} (h : wok l = true) (hl : l.length ≤ 100) {k : Nat} (hk : k ≤ l.length) : 0 ≤ cu l k ∧ cu l k ≤ 1000000 := by
  have h1 := cu_le h hk
  have h2 : al l ≤ (l.length : Int) * 10000 := (sm_bound (f := el l) (n := l.length) (fun i hi => wok_get h hi)).2
  omega
theorem Sp.of {c : Int} {l : List Int} (h : spE c l = 0) : Sp c l := by
  obtain ⟨h1, h2⟩ := spE_zero h
  unfold spOk at h2
  rw [Bool.and_eq_true, Bool.and_eq_true, decide_eq_true_iff] at h2
  obtain ⟨ha, hw, hz⟩ := h2
  have hc := inB_true.1 ha
  have ht := cu_top hw h1 (Nat.le_refl _)
  have e : cu l l.length = al l := rfl
  exact ⟨h1, hc.1, hc.2, hw, by omega, by omega⟩
theorem mul_le {a b A B : Int} (ha : -A ≤ a) (ha' : a ≤ A) (hb : 0 ≤ b) (hb' : b ≤ B) (hA : 0 ≤ A) : -(A * B) ≤ a * b ∧ a * b ≤ A * B := by
  have h1 : a * b ≤ A * b := Int.mul_le_mul_of_nonneg_right ha' hb
  have h2 : A * b ≤ A * B := Int.mul_le_mul_of_nonneg_left hb' hA
  have h3 : (-A) * b ≤ a * b := Int.mul_le_mul_of_nonneg_right ha hb
  rw [Int.neg_mul] at h3
  omega
theorem div_in {a b M : Int} (hb : 0 < b) (h1 : -M ≤ a) (h2 : a ≤ M) (hM : 0 ≤ M) : -M ≤ a / b ∧ a / b ≤ M := by
  constructor
  · rw [Int.le_ediv_iff_mul_le hb]
    have : M * 1 ≤ M * b := Int.mul_le_mul_of_nonneg_left (by omega) hM
    rw [Int.neg_mul]; omega
  · rcases Int.lt_or_le a 0 with h | h
    · have : a / b < 0 := Int.ediv_neg_of_neg_of_pos h hb
      omega
    · have := Int.ediv_le_self b h
      omega
/-- a part of an amount is in range -/
theorem Sp.part {c : Int} {l : List Int} (h : Sp c l) {k : Nat} (hk : k ≤ l.length) : -1099511627776 ≤ c * cu l k / al l ∧ c * cu l k / al l ≤ 1099511627776 := by
  have hp := h.pos
  have hc := cu_le h.w hk
  have h1 := mul_le h.a1 h.a2 hc.1 hc.2 (by decide)
  constructor
  · rw [Int.le_ediv_iff_mul_le hp, Int.neg_mul]; omega
  · have h2 : c * cu l k / al l ≤ 1099511627776 * al l / al l := Int.ediv_le_ediv hp h1.2
    rwa [Int.mul_ediv_cancel _ (by omega)] at h2
theorem Sp.prod {c : Int} {l : List Int} (h : Sp c l) {k : Nat} (hk : k ≤ l.length) : -1099511627776000000 ≤ c * cu l k ∧ c * cu l k ≤ 1099511627776000000 := by
  have hc := cu_top h.w h.len hk
  have h1 := mul_le h.a1 h.a2 hc.1 hc.2 (by decide)
  omega
/-- the shares add up -/
theorem sm_shr (c : Int) (l : List Int) (k : Nat) : sm (shr c l) k = c * cu l k / al l := by
  induction k with
  | zero => simp [sm, cu]
  | succ k ih => simp only [sm]; rw [ih]; unfold shr; omega
theorem Sp.all {c : Int} {l : List Int} (h : Sp c l) : sm (shr c l) l.length = c := by
  rw [sm_shr, show cu l l.length = al l from rfl, Int.mul_ediv_cancel _ (by have := h.pos; omega)]
theorem ediv_gap {a b n : Int} (hn : 0 < n) : (b / n - a / n) * n - (b - a) < n ∧ -n < (b / n - a / n) * n - (b - a) := by
  have h1 := Int.emod_add_mul_ediv a n
  have h2 := Int.emod_add_mul_ediv b n
  have h3 := Int.emod_nonneg a (show n ≠ 0 by omega)
  have h4 := Int.emod_lt_of_pos a hn
  have h5 := Int.emod_nonneg b (show n ≠ 0 by omega)
  have h6 := Int.emod_lt_of_pos b hn
  rw [Int.mul_comm] at h1 h2
  rw [Int.sub_mul]
  omega
/-- each share is its exact part, but for less than 1 -/
theorem Sp.gap {c : Int} {l : List Int} (h : Sp c l) (k : Nat) : shr c l k * al l - c * el l k < al l ∧ -al l < shr c l k * al l - c * el l k := by
  have h1 := ediv_gap (a := c * cu l k) (b := c * cu l (k + 1)) h.pos
  have e : c * cu l (k + 1) - c * cu l k = c * el l k := by
    rw [← Int.mul_sub]; congr 1
    show cu l k + el l k - cu l k = el l k
    omega
  rw [e] at h1
  exact h1
theorem shr_zero {c : Int} {l : List Int} {k : Nat} (h : el l k = 0) : shr c l k = 0 := by
  unfold shr
  have : cu l (k + 1) = cu l k := by show cu l k + el l k = cu l k; omega
  rw [this]; omega
/-- how the statement forms share * all - amount * weight -/
theorem far_eq {c w a s : Int} : (s - c.tdiv a * w) * a - c.tmod a * w = s * a - c * w := by
  have h1 := Int.tmod_add_mul_tdiv c a
  have h2 : c * w = (c.tmod a + a * c.tdiv a) * w := by rw [h1]
  rw [h2, Int.add_mul, Int.sub_mul]
  have : c.tdiv a * w * a = a * c.tdiv a * w := by rw [Int.mul_comm (c.tdiv a * w) a, Int.mul_assoc]
  omega
theorem far_in {c w a s : Int} (ha : 0 < a) (h1 : s * a - c * w < a) (h2 : -a < s * a - c * w) (w0 : 0 ≤ w) (w1 : w ≤ 10000) :
    -10001 ≤ s - c.tdiv a * w ∧ s - c.tdiv a * w ≤ 10001 := by
  rw [← far_eq] at h1 h2
  have h3 : -a < c.tmod a := Int.lt_tmod_of_pos c ha
  have h4 : c.tmod a < a := Int.tmod_lt_of_pos c ha
  have h5 := mul_le (a := c.tmod a) (b := w) (A := a) (B := 10000) (by omega) (by omega) w0 w1 (by omega)
  generalize s - c.tdiv a * w = x at *
  constructor
  · rcases Int.lt_or_le x (-10001) with h | h
    · have : x * a ≤ (-10002) * a := Int.mul_le_mul_of_nonneg_right (by omega) (by omega)
      omega
    · exact h
  · rcases Int.lt_or_le 10001 x with h | h
    · have : 10002 * a ≤ x * a := Int.mul_le_mul_of_nonneg_right (by omega) (by omega)
      omega
    · exact h
/-- the document's way to a share -/
theorem below_split {c a b : Int} (ha : 0 < a) : c / a * b + (c - c / a * a) * b / a = c * b / a := by
  have h : c * b = (c - c / a * a) * b + (c / a * b) * a := by
    rw [Int.sub_mul, Int.mul_right_comm]; omega
  rw [h, Int.add_mul_ediv_right _ _ (by omega)]
  omega
/-- the document's way to half up -/
theorem half_split {a m b : Int} (hb : 0 < b) : a / b * m + (2 * (a - a / b * b) * m + b) / (2 * b) = hu (a * m) b := by
  unfold hu
  have h : 2 * (a * m) + b = (2 * (a - a / b * b) * m + b) + (a / b * m) * (2 * b) := by
    have e1 : 2 * (a - a / b * b) * m = 2 * (a * m) - 2 * (a / b * b * m) := by
      rw [Int.mul_sub, Int.sub_mul, Int.mul_assoc, Int.mul_assoc 2]
    have e2 : (a / b * m) * (2 * b) = 2 * (a / b * b * m) := by
      rw [Int.mul_left_comm, Int.mul_right_comm]
    omega
  rw [h, Int.add_mul_ediv_right _ _ (by omega)]
  omega
/-- a discount -/
def dcE (c m : Int) : Int := if (am c && inB 0 m 1000) = true then 0 else 2
def dcV (c m : Int) : Int := if (am c && inB 0 m 1000) = true then hu (c * (1000 - m)) 1000 else 0
end Go.Proofs.YtdihnbjmeppbcaaDoor.Pl
