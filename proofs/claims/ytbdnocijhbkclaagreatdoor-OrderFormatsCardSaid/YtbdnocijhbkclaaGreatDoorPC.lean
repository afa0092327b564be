/- Merged: P1 P2 P3 P4. -/
import Derived.Lib.SlTrimSet
/- Plain: amounts, rounding, sums of weights, the shares of an amount. It imports nothing of the program. -/
namespace Go.Proofs.YtbdnocijhbkclaaGreatDoor.Pl

def inB (a x b : Int) : Bool := decide (a ≤ x) && decide (x ≤ b)
theorem inB_true {a x b : Int} : inB a x b = true ↔ a ≤ x ∧ x ≤ b := by unfold inB; rw [Bool.and_eq_true, decide_eq_true_iff, decide_eq_true_iff]
theorem inB_false {a x b : Int} : inB a x b = false ↔ ¬ (a ≤ x ∧ x ≤ b) := by rw [← inB_true, Bool.not_eq_true]
/-- an amount -/
def am (x : Int) : Bool := inB (-1099511627776) x 1099511627776
/-- a weight -/
def wt (x : Int) : Bool := inB 0 x 10000
/-- a day -/
def dy (x : Int) : Bool := inB 0 x 100000
/-- half up -/
def hu (a b : Int) : Int := (2 * a + b) / (2 * b)
/-- the first n values of a function -/
def tab {α : Type} (f : Nat → α) (n : Nat) : List α := (List.range n).map f
theorem tab_zero {α : Type} (f : Nat → α) : tab f 0 = [] := rfl
theorem tab_succ {α : Type} (f : Nat → α) (n : Nat) : tab f (n + 1) = tab f n ++ [f n] := by
  unfold tab; rw [List.range_succ, List.map_append]; rfl
theorem tab_len {α : Type} (f : Nat → α) (n : Nat) : (tab f n).length = n := by unfold tab; simp
theorem tab_get {α : Type} (f : Nat → α) {n k : Nat} (h : k < (tab f n).length) : (tab f n)[k] = f k := by simp [tab]
theorem tab_getD {α : Type} (f : Nat → α) (d : α) {n k : Nat} (h : k < n) : (tab f n).getD k d = f k := by
  rw [List.getD_eq_getElem?_getD, List.getElem?_eq_getElem (by rw [tab_len]; exact h), tab_get]; rfl
/-- the sum of the first n values -/
def sm (f : Nat → Int) : Nat → Int
  | 0 => 0
  | n + 1 => sm f n + f n
theorem sm_bound {f : Nat → Int} {n : Nat} {lo hi : Int} (h : ∀ i, i < n → lo ≤ f i ∧ f i ≤ hi) : (n : Int) * lo ≤ sm f n ∧ sm f n ≤ (n : Int) * hi := by
  induction n with
  | zero => simp [sm]
  | succ n ih =>
    have h1 := ih (fun i hi => h i (by omega))
    have h2 := h n (by omega)
    have e1 : ((n + 1 : Nat) : Int) * lo = (n : Int) * lo + lo := by rw [Int.natCast_add, Int.add_mul]; simp
    have e2 : ((n + 1 : Nat) : Int) * hi = (n : Int) * hi + hi := by rw [Int.natCast_add, Int.add_mul]; simp
    rw [e1, e2]
    simp only [sm]
    omega
theorem sm_mono {f : Nat → Int} {n : Nat} (h : ∀ i, i < n → 0 ≤ f i) : ∀ k, k ≤ n → 0 ≤ sm f k ∧ sm f k ≤ sm f n := by
  induction n with
  | zero => intro k hk; obtain rfl : k = 0 := by omega
            simp [sm]
  | succ n ih =>
    intro k hk
    have h1 := ih (fun i hi => h i (by omega))
    have h2 := h n (by omega)
    rcases Nat.lt_or_eq_of_le hk with h' | rfl
    · have := h1 k (by omega)
      have := h1 n (Nat.le_refl _)
      simp only [sm]; omega
    · have := h1 n (Nat.le_refl _)
      simp only [sm]; omega
theorem sm_ext {f g : Nat → Int} {n : Nat} (h : ∀ i, i < n → f i = g i) : sm f n = sm g n := by
  induction n with
  | zero => rfl
  | succ n ih => simp only [sm]; rw [ih (fun i hi => h i (by omega)), h n (by omega)]
/-- element k of a list of numbers -/
def el (l : List Int) (k : Nat) : Int := l.getD k 0
theorem el_get {l : List Int} {k : Nat} (h : k < l.length) : el l k = l[k] := by
  unfold el; rw [List.getD_eq_getElem?_getD, List.getElem?_eq_getElem h]; rfl
/-- the rest of a division as the machine does it, and the quotient rounded down -/
theorem down_neg {a b : Int} (hb : 0 < b) (h : a.tmod b < 0) : a.tdiv b - 1 = a / b := by
  have h1 := Int.tmod_add_mul_tdiv a b
  have h2 : -b < a.tmod b := Int.lt_tmod_of_pos a hb
  have : a / b = a.tdiv b - 1 := by
    rw [Int.ediv_eq_iff_of_pos hb]
    rw [Int.mul_comm] at h1
    constructor
    · rw [Int.sub_mul]; omega
    · rw [Int.sub_mul]; omega
  exact this.symm
theorem down_pos {a b : Int} (hb : 0 < b) (h : ¬ a.tmod b < 0) : a.tdiv b = a / b := by
  have h1 := Int.tmod_add_mul_tdiv a b
  have h2 : a.tmod b < b := Int.tmod_lt_of_pos a hb
  symm
  rw [Int.ediv_eq_iff_of_pos hb]
  rw [Int.mul_comm] at h1
  constructor <;> omega

/-- the weights are valid -/
def wok (l : List Int) : Bool := l.all wt
theorem wok_get {l : List Int} (h : wok l = true) {k : Nat} (hk : k < l.length) : 0 ≤ el l k ∧ el l k ≤ 10000 := by
  rw [el_get hk]
  exact inB_true.1 (List.all_eq_true.1 h _ (List.getElem_mem hk))
/-- the sum of the first k weights -/
def cu (l : List Int) (k : Nat) : Int := sm (el l) k
def al (l : List Int) : Int := cu l l.length
/-- what Split answers -/
def spOk (c : Int) (l : List Int) : Bool := am c && (wok l && decide (al l ≠ 0))
def spE (c : Int) (l : List Int) : Int := if 100 < l.length then 4 else if spOk c l = true then 0 else 2
def shr (c : Int) (l : List Int) (k : Nat) : Int := c * cu l (k + 1) / al l - c * cu l k / al l
def spV (c : Int) (l : List Int) : List Int := if spE c l = 0 then tab (shr c l) l.length else []
theorem spE_big {c : Int} {l : List Int} (h : 100 < l.length) : spE c l = 4 := if_pos h
theorem spE_ok {c : Int} {l : List Int} (h : l.length ≤ 100) (h2 : spOk c l = true) : spE c l = 0 := by unfold spE; rw [if_neg (by omega), if_pos h2]
theorem spE_no {c : Int} {l : List Int} (h : l.length ≤ 100) (h2 : spOk c l = false) : spE c l = 2 := by unfold spE; rw [if_neg (by omega), if_neg (by rw [h2]; decide)]
theorem spE_zero {c : Int} {l : List Int} (h : spE c l = 0) : l.length ≤ 100 ∧ spOk c l = true := by
  unfold spE at h
  split at h
  · omega
  · split at h
    · exact ⟨by omega, by assumption⟩
    · omega
structure Sp (c : Int) (l : List Int) : Prop where
  len : l.length ≤ 100
  a1 : -1099511627776 ≤ c
  a2 : c ≤ 1099511627776
  w : wok l = true
  pos : 0 < al l
  top : al l ≤ 1000000
theorem cu_le {l : List Int} (h : wok l = true) {k : Nat} (hk : k ≤ l.length) : 0 ≤ cu l k ∧ cu l k ≤ al l := sm_mono (fun _ hi => (wok_get h hi).1) k hk
theorem cu_top {l : List Int} (h : wok l = true) (hl : l.length ≤ 100) {k : Nat} (hk : k ≤ l.length) : 0 ≤ cu l k ∧ cu l k ≤ 1000000 := by
  have h1 := cu_le h hk
  have h2 : al l ≤ (l.length : Int) * 10000 := (sm_bound (f := el l) (n := l.length) (fun i hi => wok_get h hi)).2
  omega
theorem Sp.of {c : Int} {l : List Int} (h : spE c l = 0) : Sp c l := by
  obtain ⟨h1, h2⟩ := spE_zero h
  unfold spOk at h2
  rw [Bool.and_eq_true, Bool.and_eq_true, decide_eq_true_iff] at h2
  obtain ⟨ha, hw, hz⟩ := h2
  have hc := inB_true.1 ha
  have ht := cu_top hw h1 (Nat.le_refl _)
  have e : cu l l.length = al l := rfl
  exact ⟨h1, hc.1, hc.2, hw, by omega, by omega⟩
theorem mul_le {a b A B : Int} (ha : -A ≤ a) (ha' : a ≤ A) (hb : 0 ≤ b) (hb' : b ≤ B) (hA : 0 ≤ A) : -(A * B) ≤ a * b ∧ a * b ≤ A * B := by
  have h1 : a * b ≤ A * b := Int.mul_le_mul_of_nonneg_right ha' hb
  have h2 : A * b ≤ A * B := Int.mul_le_mul_of_nonneg_left hb' hA
  have h3 : (-A) * b ≤ a * b := Int.mul_le_mul_of_nonneg_right ha hb
  rw [Int.neg_mul] at h3
  omega
theorem div_in {a b M : Int} (hb : 0 < b) (h1 : -M ≤ a) (h2 : a ≤ M) (hM : 0 ≤ M) : -M ≤ a / b ∧ a / b ≤ M := by
  constructor
  · rw [Int.le_ediv_iff_mul_le hb]
    have : M * 1 ≤ M * b := Int.mul_le_mul_of_nonneg_left (by omega) hM
    rw [Int.neg_mul]; omega
  · rcases Int.lt_or_le a 0 with h | h
    · have : a / b < 0 := Int.ediv_neg_of_neg_of_pos h hb
      omega
    · have := Int.ediv_le_self b h
      omega
/-- a part of an amount is in range -/
theorem Sp.part {c : Int} {l : List Int} (h : Sp c l) {k : Nat} (hk : k ≤ l.length) : -1099511627776 ≤ c * cu l k / al l ∧ c * cu l k / al l ≤ 1099511627776 := by
  have hp := h.pos
  have hc := cu_le h.w hk
  have h1 := mul_le h.a1 h.a2 hc.1 hc.2 (by decide)
  constructor
  · rw [Int.le_ediv_iff_mul_le hp, Int.neg_mul]; omega
  · have h2 : c * cu l k / al l ≤ 1099511627776 * al l / al l := Int.ediv_le_ediv hp h1.2
    rwa [Int.mul_ediv_cancel _ (by omega)] at h2
theorem Sp.prod {c : Int} {l : List Int} (h : Sp c l) {k : Nat} (hk : k ≤ l.length) : -1099511627776000000 ≤ c * cu l k ∧ c * cu l k ≤ 1099511627776000000 := by
  have hc := cu_top h.w h.len hk
  have h1 := mul_le h.a1 h.a2 hc.1 hc.2 (by decide)
  omega
/-- the shares add up -/
theorem sm_shr (c : Int) (l : List Int) (k : Nat) : sm (shr c l) k = c * cu l k / al l := by
  induction k with
  | zero => simp [sm, cu]
  | succ k ih => simp only [sm]; rw [ih]; unfold shr; omega
theorem Sp.all {c : Int} {l : List Int} (h : Sp c l) : sm (shr c l) l.length = c := by
  rw [sm_shr, show cu l l.length = al l from rfl, Int.mul_ediv_cancel _ (by have := h.pos; omega)]
theorem ediv_gap {a b n : Int} (hn : 0 < n) : (b / n - a / n) * n - (b - a) < n ∧ -n < (b / n - a / n) * n - (b - a) := by
  have h1 := Int.emod_add_mul_ediv a n
  have h2 := Int.emod_add_mul_ediv b n
  have h3 := Int.emod_nonneg a (show n ≠ 0 by omega)
  have h4 := Int.emod_lt_of_pos a hn
  have h5 := Int.emod_nonneg b (show n ≠ 0 by omega)
  have h6 := Int.emod_lt_of_pos b hn
  rw [Int.mul_comm] at h1 h2
  rw [Int.sub_mul]
  omega
/-- each share is its exact part, but for less than 1 -/
theorem Sp.gap {c : Int} {l : List Int} (h : Sp c l) (k : Nat) : shr c l k * al l - c * el l k < al l ∧ -al l < shr c l k * al l - c * el l k := by
  have h1 := ediv_gap (a := c * cu l k) (b := c * cu l (k + 1)) h.pos
  have e : c * cu l (k + 1) - c * cu l k = c * el l k := by
    rw [← Int.mul_sub]; congr 1
    show cu l k + el l k - cu l k = el l k
    omega
  rw [e] at h1
  exact h1
theorem shr_zero {c : Int} {l : List Int} {k : Nat} (h : el l k = 0) : shr c l k = 0 := by
  unfold shr
  have : cu l (k + 1) = cu l k := by show cu l k + el l k = cu l k; omega
  rw [this]; omega
/-- how the statement forms share * all - amount * weight -/
theorem far_eq {c w a s : Int} : (s - c.tdiv a * w) * a - c.tmod a * w = s * a - c * w := by
  have h1 := Int.tmod_add_mul_tdiv c a
  have h2 : c * w = (c.tmod a + a * c.tdiv a) * w := by rw [h1]
  rw [h2, Int.add_mul, Int.sub_mul]
  have : c.tdiv a * w * a = a * c.tdiv a * w := by rw [Int.mul_comm (c.tdiv a * w) a, Int.mul_assoc]
  omega
theorem far_in {c w a s : Int} (ha : 0 < a) (h1 : s * a - c * w < a) (h2 : -a < s * a - c * w) (w0 : 0 ≤ w) (w1 : w ≤ 10000) :
    -10001 ≤ s - c.tdiv a * w ∧ s - c.tdiv a * w ≤ 10001 := by
  rw [← far_eq] at h1 h2
  have h3 : -a < c.tmod a := Int.lt_tmod_of_pos c ha
  have h4 : c.tmod a < a := Int.tmod_lt_of_pos c ha
  have h5 := mul_le (a := c.tmod a) (b := w) (A := a) (B := 10000) (by omega) (by omega) w0 w1 (by omega)
  generalize s - c.tdiv a * w = x at *
  constructor
  · rcases Int.lt_or_le x (-10001) with h | h
    · have : x * a ≤ (-10002) * a := Int.mul_le_mul_of_nonneg_right (by omega) (by omega)
      omega
    · exact h
  · rcases Int.lt_or_le 10001 x with h | h
    · have : 10002 * a ≤ x * a := Int.mul_le_mul_of_nonneg_right (by omega) (by omega)
      omega
    · exact h
/-- the document's way to a share -/
theorem below_split {c a b : Int} (ha : 0 < a) : c / a * b + (c - c / a * a) * b / a = c * b / a := by
  have h : c * b = (c - c / a * a) * b + (c / a * b) * a := by
    rw [Int.sub_mul, Int.mul_right_comm]; omega
  rw [h, Int.add_mul_ediv_right _ _ (by omega)]
  omega
/-- the document's way to half up -/
theorem half_split {a m b : Int} (hb : 0 < b) : a / b * m + (2 * (a - a / b * b) * m + b) / (2 * b) = hu (a * m) b := by
  unfold hu
  have h : 2 * (a * m) + b = (2 * (a - a / b * b) * m + b) + (a / b * m) * (2 * b) := by
    have e1 : 2 * (a - a / b * b) * m = 2 * (a * m) - 2 * (a / b * b * m) := by
      rw [Int.mul_sub, Int.sub_mul, Int.mul_assoc, Int.mul_assoc 2]
    have e2 : (a / b * m) * (2 * b) = 2 * (a / b * b * m) := by
      rw [Int.mul_left_comm, Int.mul_right_comm]
    omega
  rw [h, Int.add_mul_ediv_right _ _ (by omega)]
  omega
/-- a discount -/
def dcE (c m : Int) : Int := if (am c && inB 0 m 1000) = true then 0 else 2
def dcV (c m : Int) : Int := if (am c && inB 0 m 1000) = true then hu (c * (1000 - m)) 1000 else 0
end Go.Proofs.YtbdnocijhbkclaaGreatDoor.Pl
/- Plain: words and currencies as lists of bytes, and what is left of them when their signs are trimmed. -/
namespace Go.Proofs.YtbdnocijhbkclaaGreatDoor.Pl

def up (b : UInt8) : Bool := decide (65 ≤ b.toNat) && decide (b.toNat ≤ 90)
def dg (b : UInt8) : Bool := decide (48 ≤ b.toNat) && decide (b.toNat ≤ 57)
def ud (b : UInt8) : Bool := up b || dg b
abbrev sigL : List UInt8 := [65, 66, 67, 68, 69, 70, 71, 72, 73, 74, 75, 76, 77, 78, 79, 80, 81, 82, 83, 84, 85, 86, 87, 88, 89, 90]
abbrev sigW : List UInt8 := [65, 66, 67, 68, 69, 70, 71, 72, 73, 74, 75, 76, 77, 78, 79, 80, 81, 82, 83, 84, 85, 86, 87, 88, 89, 90, 48, 49, 50, 51, 52, 53, 54, 55, 56, 57]
theorem bytes_all {p q : UInt8 → Bool} (h : (List.range 256).all (fun n => p (UInt8.ofNat n) == q (UInt8.ofNat n)) = true) (b : UInt8) : p b = q b := by
  have h1 := List.all_eq_true.1 h b.toNat (List.mem_range.2 b.toNat_lt)
  rw [UInt8.ofNat_toNat] at h1
  exact beq_iff_eq.1 h1
theorem sig_l (b : UInt8) : sigL.contains b = up b := bytes_all (p := fun b => sigL.contains b) (q := up) (by decide +kernel) b
theorem sig_w (b : UInt8) : sigW.contains b = ud b := bytes_all (p := fun b => sigW.contains b) (q := ud) (by decide +kernel) b
theorem drop_nil {α : Type} {p : α → Bool} : ∀ {l : List α}, l.dropWhile p = [] ↔ l.all p = true
  | [] => by simp
  | x :: l => by
    rw [List.dropWhile_cons]
    cases h : p x
    · simp [h]
    · simp only [if_true, List.all_cons, h, Bool.true_and]; exact drop_nil
theorem all_rev {α : Type} {p : α → Bool} (l : List α) : l.reverse.all p = l.all p := by
  rw [Bool.eq_iff_iff, List.all_eq_true, List.all_eq_true]
  simp
theorem drop_head {α : Type} {p : α → Bool} : ∀ {l : List α} {x : α} {m : List α}, l.dropWhile p = x :: m → p x = false
  | [], x, m, h => by simp at h
  | y :: l, x, m, h => by
    rw [List.dropWhile_cons] at h
    cases hy : p y
    · rw [if_neg (by rw [hy]; decide)] at h
      cases h; exact hy
    · rw [if_pos hy] at h
      exact drop_head h
/-- nothing is left when the signs are trimmed: all are such signs -/
theorem trim_nil {l cs : List UInt8} : Lib.trimS l cs = [] ↔ l.all (fun b => cs.contains b) = true := by
  unfold Lib.trimS Lib.trimLeftS Lib.trimRightS
  rw [drop_nil, all_rev]
  constructor
  · intro h
    cases e : l.reverse.dropWhile (fun b => cs.contains b) with
    | nil => rw [drop_nil, all_rev] at e; exact e
    | cons x m =>
      rw [e, List.all_cons, drop_head e] at h
      simp at h
  · intro h
    rw [← all_rev, ← drop_nil] at h
    rw [h]; rfl
/-- a word -/
def wd (s : List UInt8) : Bool := inB 1 s.length 12 && s.all ud
/-- a currency -/
def cy (s : List UInt8) : Bool := decide (s.length = 3) && s.all up
theorem all_w (l : List UInt8) : (l.all (fun b => sigW.contains b)) = l.all ud := by congr 1; funext b; exact sig_w b
theorem all_l (l : List UInt8) : (l.all (fun b => sigL.contains b)) = l.all up := by congr 1; funext b; exact sig_l b
end Go.Proofs.YtbdnocijhbkclaaGreatDoor.Pl
/- Plain: prices, rates, lines, forms; which are valid; the latest of them; what an amount is in a currency. -/
namespace Go.Proofs.YtbdnocijhbkclaaGreatDoor.Pl

/-- a step of a price -/
structure Stp where
  c : Int
  m : Int
/-- a price, and where its steps lie -/
structure Pr where
  md : ByteArray
  d : Int
  st : List Stp
  a : Option Addr
  k : Nat
/-- a rate -/
structure Rt where
  cur : ByteArray
  d : Int
  num : Int
  den : Int
/-- a line of a form -/
structure Ln where
  md : ByteArray
  col : Int
  siz : Int
  cnt : Int
deriving DecidableEq
/-- a form, and where its lines lie -/
structure Fm where
  cus : ByteArray
  d : Int
  cur : ByteArray
  ls : List Ln
  a : Option Addr
  k : Nat
abbrev eurB : ByteArray := ⟨#[69, 85, 82]⟩
instance : Inhabited Stp := ⟨⟨0, 0⟩⟩
instance : Inhabited Pr := ⟨⟨⟨#[]⟩, 0, [], none, 0⟩⟩
instance : Inhabited Rt := ⟨⟨⟨#[]⟩, 0, 0, 0⟩⟩
instance : Inhabited Ln := ⟨⟨⟨#[]⟩, 0, 0, 0⟩⟩
/-- a word, a currency, as strings -/
def wdB (s : ByteArray) : Bool := wd s.data.toList
def cyB (s : ByteArray) : Bool := cy s.data.toList
abbrev Ky := ByteArray × Int
def pk (p : Pr) : Ky := (p.md, p.d)
def rk (r : Rt) : Ky := (r.cur, r.d)
/-- the steps of a price: what the Count of one must be above, and whether it is right -/
def sb (l : List Stp) : Nat → Int
  | 0 => 0
  | i + 1 => (l.getD i default).c
def sok (l : List Stp) (i : Nat) : Bool := inB (sb l i + 1) (l.getD i default).c 100000 && inB 0 (l.getD i default).m 10000000
def vst (l : List Stp) : Bool := inB 1 l.length 8 && (decide ((l.getD 0 default).c = 1) && (List.range l.length).all (sok l))
def vp (p : Pr) : Bool := wdB p.md && (dy p.d && vst p.st)
def vr (r : Rt) : Bool := cyB r.cur && (!(decide (r.cur = eurB)) && (dy r.d && (inB 1 r.num 1000000 && inB 1 r.den 1000000)))
def vl (x : Ln) : Bool := wdB x.md && (inB 1 x.col 9 && (inB 1 x.siz 1000000000 && inB 1 x.cnt 1000))
def vps (l : List Pr) : Bool := decide (l.length ≤ 60) && (l.all vp && decide (l.map pk).Nodup)
def vrs (l : List Rt) : Bool := decide (l.length ≤ 60) && (l.all vr && decide (l.map rk).Nodup)
def vf (f : Fm) : Bool := wdB f.cus && (dy f.d && (cyB f.cur && (inB 1 f.ls.length 40 && f.ls.all vl)))

/-- no two are the same, told one by one -/
def nd {α : Type} [DecidableEq α] (l : List α) : Bool := decide l.Nodup
/-- the different ones among the first k -/
def ins {α : Type} [DecidableEq α] (x : α) (s : List α) : List α := if x ∈ s then s else x :: s
def dif {α : Type} [DecidableEq α] (l : List α) : List α := l.foldl (fun s x => ins x s) []
theorem dif_snoc {α : Type} [DecidableEq α] (l : List α) (x : α) : dif (l ++ [x]) = ins x (dif l) := by unfold dif; rw [List.foldl_append]; rfl
theorem mem_dif {α : Type} [DecidableEq α] (l : List α) : ∀ y, y ∈ dif l ↔ y ∈ l := by
  induction h : l.length generalizing l with
  | zero => intro y; rw [List.length_eq_zero_iff.1 h]; exact Iff.rfl
  | succ n ih =>
    intro y
    have hne : l ≠ [] := by intro e; rw [e] at h; simp at h
    rw [← List.dropLast_concat_getLast hne, dif_snoc]
    have h1 := ih l.dropLast (by simp [h])
    unfold ins
    split
    · rename_i hx
      rw [List.mem_append, h1]
      constructor
      · exact .inl
      · rintro (h2 | h2)
        · exact h2
        · rw [List.mem_singleton] at h2
          rw [h2]; exact (h1 _).1 hx
    · rw [List.mem_cons, List.mem_append, h1, List.mem_singleton]; exact Or.comm
theorem dif_len {α : Type} [DecidableEq α] (l : List α) : (dif l).length ≤ l.length ∧ ((dif l).length = l.length ↔ l.Nodup) := by
  induction h : l.length generalizing l with
  | zero => rw [List.length_eq_zero_iff.1 h]; exact ⟨Nat.le_refl _, by simp [dif]⟩
  | succ n ih =>
    have hne : l ≠ [] := by intro e; rw [e] at h; simp at h
    have hl : l.dropLast.length = n := by simp [h]
    have h1 := ih l.dropLast hl
    have e : l = l.dropLast ++ [l.getLast hne] := (List.dropLast_concat_getLast hne).symm
    have e2 : dif l = ins (l.getLast hne) (dif l.dropLast) := by rw [← dif_snoc, ← e]
    have e3 : l.Nodup ↔ l.dropLast.Nodup ∧ l.getLast hne ∉ l.dropLast := by
      conv => lhs; rw [e]
      rw [List.nodup_append]
      constructor
      · rintro ⟨a, _, b⟩
        exact ⟨a, fun hm => b _ hm _ (List.mem_singleton.2 rfl) rfl⟩
      · rintro ⟨a, b⟩
        exact ⟨a, by simp, fun x hx y hy e => b (by rw [List.mem_singleton] at hy; rw [← hy, ← e]; exact hx)⟩
    rw [e2, e3, ← mem_dif l.dropLast]
    unfold ins
    split
    · rename_i hx
      refine ⟨by omega, fun hh => ?_, fun hh => absurd hx hh.2⟩
      omega
    · rename_i hx
      rw [List.length_cons]
      refine ⟨by omega, fun hh => ⟨h1.2.1 (by omega), hx⟩, fun hh => ?_⟩
      have := h1.2.2 hh.1
      omega

/-- the latest one with a name, not later than a day, among the first k -/
def dof (ks : List Ky) : Option Nat → Int
  | none => -1
  | some j => (ks.getD j (⟨#[]⟩, 0)).2
def lt (ks : List Ky) (n : ByteArray) (d : Int) : Nat → Option Nat
  | 0 => none
  | k + 1 => if (ks.getD k (⟨#[]⟩, 0)).1 = n ∧ dof ks (lt ks n d k) + 1 ≤ (ks.getD k (⟨#[]⟩, 0)).2 ∧ (ks.getD k (⟨#[]⟩, 0)).2 ≤ d then some k else lt ks n d k
theorem lt_lt {ks : List Ky} {n : ByteArray} {d : Int} : ∀ {k j : Nat}, lt ks n d k = some j → j < k
  | 0, j, h => by cases h
  | k + 1, j, h => by
    unfold lt at h
    split at h
    · cases h; omega
    · have := lt_lt h; omega
/-- the price of one piece, of n, by the first k steps -/
def cen (l : List Stp) (n : Int) : Nat → Int
  | 0 => 0
  | k + 1 => if (l.getD k default).c ≤ n then (l.getD k default).m else cen l n k
theorem cen_in {l : List Stp} (h : ∀ i, i < l.length → sok l i = true) (n : Int) : ∀ {k : Nat}, k ≤ l.length → 0 ≤ cen l n k ∧ cen l n k ≤ 10000000
  | 0, _ => by simp [cen]
  | k + 1, hk => by
    have h1 := h k (by omega)
    unfold sok at h1
    rw [Bool.and_eq_true, inB_true, inB_true] at h1
    unfold cen
    split
    · exact h1.2
    · exact cen_in h n (by omega)
/-- the count that costs least, and its cost, by the first k steps -/
def chp (l : List Stp) (n : Int) : Nat → Int × Int
  | 0 => (n, n * cen l n l.length)
  | k + 1 => if n < (l.getD k default).c ∧ (l.getD k default).c * (l.getD k default).m < (chp l n k).2 then ((l.getD k default).c, (l.getD k default).c * (l.getD k default).m) else chp l n k
theorem chp_le (l : List Stp) (n : Int) : ∀ k, (chp l n k).2 ≤ n * cen l n l.length ∧ n ≤ (chp l n k).1
  | 0 => ⟨Int.le_refl _, Int.le_refl _⟩
  | k + 1 => by
    have h := chp_le l n k
    unfold chp
    split
    · rename_i hc
      exact ⟨by simp only; omega, by simp only; omega⟩
    · exact h
/-- what an amount is in a currency on a day -/
def cE (l : List Rt) (cur : ByteArray) (d a : Int) : Int :=
  if cur = eurB then 0 else match lt (l.map rk) cur d l.length with
    | none => 81
    | some j => if am (hu (a * (l.getD j default).num) (l.getD j default).den) = true then 0 else 4
def cV (l : List Rt) (cur : ByteArray) (d a : Int) : Int :=
  if cur = eurB then a else match lt (l.map rk) cur d l.length with
    | none => 0
    | some j => if am (hu (a * (l.getD j default).num) (l.getD j default).den) = true then hu (a * (l.getD j default).num) (l.getD j default).den else 0
def coE (l : List Rt) (cur : ByteArray) (d a : Int) : Int := if vrs l = true then (if (cyB cur && (dy d && am a)) = true then cE l cur d a else 2) else 81
def coV (l : List Rt) (cur : ByteArray) (d a : Int) : Int := if vrs l = true then (if (cyB cur && (dy d && am a)) = true then cV l cur d a else 0) else 0
/-- Price -/
def prE (l : List Pr) (m : ByteArray) (d n : Int) : Int := if vps l = true then (if (dy d && inB 1 n 100000) = true then (match lt (l.map pk) m d l.length with | none => 82 | some _ => 0) else 2) else 80
def prS (l : List Pr) (m : ByteArray) (d n : Int) : List Stp := if vps l = true then (if (dy d && inB 1 n 100000) = true then (match lt (l.map pk) m d l.length with | none => [] | some j => (l.getD j default).st) else []) else []
def prV (l : List Pr) (m : ByteArray) (d n : Int) : Int := cen (prS l m d n) n (prS l m d n).length
end Go.Proofs.YtbdnocijhbkclaaGreatDoor.Pl
/- Plain: valid lists of rates and of prices, told one by one. -/
namespace Go.Proofs.YtbdnocijhbkclaaGreatDoor.Pl

def vls {α β : Type} [DecidableEq β] (p : α → Bool) (f : α → β) (l : List α) : Bool := decide (l.length ≤ 60) && (l.all p && decide (l.map f).Nodup)
theorem vrs_eq (l : List Rt) : vrs l = vls vr rk l := rfl
theorem vps_eq (l : List Pr) : vps l = vls vp pk l := rfl
section
variable {α β : Type} [DecidableEq β] {p : α → Bool} {f : α → β} {l : List α}
omit [DecidableEq β] in
theorem nodup_idx : (l.map f).Nodup ↔ ∀ (k i : Nat) (hk : k < l.length) (hi : i < l.length), k < i → f l[k] ≠ f l[i] := by
  unfold List.Nodup
  rw [List.pairwise_iff_getElem]
  constructor
  · intro h k i hk hi hki
    have := h k i (by simpa using hk) (by simpa using hi) hki
    simpa using this
  · intro h k i hk hi hki
    simpa using h k i (by simpa using hk) (by simpa using hi) hki
theorem vls_true : vls p f l = true ↔ l.length ≤ 60 ∧ (∀ (i : Nat) (hi : i < l.length), p l[i] = true) ∧ ∀ (k i : Nat) (hk : k < l.length) (hi : i < l.length), k < i → f l[k] ≠ f l[i] := by
  unfold vls
  rw [Bool.and_eq_true, Bool.and_eq_true, decide_eq_true_iff, decide_eq_true_iff, nodup_idx, List.all_eq_true]
  refine and_congr Iff.rfl (and_congr ⟨fun h i hi => h _ (List.getElem_mem hi), fun h x hx => ?_⟩ Iff.rfl)
  obtain ⟨i, hi, rfl⟩ := List.getElem_of_mem hx
  exact h i hi
theorem vls_long (h : 60 < l.length) : vls p f l = false := by
  rw [← Bool.not_eq_true, vls_true]; intro h'; omega
theorem vls_bad {i : Nat} (hi : i < l.length) (h : p l[i] = false) : vls p f l = false := by
  rw [← Bool.not_eq_true, vls_true]; intro h'; rw [h'.2.1 i hi] at h; cases h
theorem vls_two {k i : Nat} (hi : i < l.length) (hki : k < i) (h : f (l[k]'(by omega)) = f l[i]) : vls p f l = false := by
  rw [← Bool.not_eq_true, vls_true]; intro h'; exact h'.2.2 k i (by omega) hi hki h
theorem vls_parts (n : Nat) (hn : l.length = n) (x y : Bool) (hx : l.all p = x) (hy : decide (l.map f).Nodup = y) : vls p f l = (decide (n ≤ 60) && (x && y)) := by
  subst hn hx hy; rfl
end
theorem vr_parts (r : Rt) (x1 x2 x3 x4 x5 : Bool) (h1 : cyB r.cur = x1) (h2 : decide (r.cur = eurB) = x2) (h3 : dy r.d = x3) (h4 : inB 1 r.num 1000000 = x4) (h5 : inB 1 r.den 1000000 = x5) : vr r = (x1 && (!x2 && (x3 && (x4 && x5)))) := by
  subst h1 h2 h3 h4 h5; rfl
theorem vp_parts (p : Pr) (x1 x2 x3 : Bool) (h1 : wdB p.md = x1) (h2 : dy p.d = x2) (h3 : vst p.st = x3) : vp p = (x1 && (x2 && x3)) := by subst h1 h2 h3; rfl
theorem vl_parts (x : Ln) (x1 x2 x3 x4 : Bool) (h1 : wdB x.md = x1) (h2 : inB 1 x.col 9 = x2) (h3 : inB 1 x.siz 1000000000 = x3) (h4 : inB 1 x.cnt 1000 = x4) : vl x = (x1 && (x2 && (x3 && x4))) := by subst h1 h2 h3 h4; rfl
structure Vr (r : Rt) : Prop where
  cur : cyB r.cur = true
  ne : r.cur ≠ eurB
  d0 : 0 ≤ r.d
  d1 : r.d ≤ 100000
  n0 : 1 ≤ r.num
  n1 : r.num ≤ 1000000
  e0 : 1 ≤ r.den
  e1 : r.den ≤ 1000000
theorem vr_true {r : Rt} : vr r = true ↔ Vr r := by
  unfold vr dy
  simp only [Bool.and_eq_true, inB_true, Bool.not_eq_true', decide_eq_false_iff_not]
  constructor
  · rintro ⟨a, b, ⟨c, d⟩, ⟨e, f⟩, g, h⟩; exact ⟨a, b, c, d, e, f, g, h⟩
  · rintro ⟨a, b, c, d, e, f, g, h⟩; exact ⟨a, b, ⟨c, d⟩, ⟨e, f⟩, g, h⟩
structure Vp (p : Pr) : Prop where
  md : wdB p.md = true
  d0 : 0 ≤ p.d
  d1 : p.d ≤ 100000
  st : vst p.st = true
theorem vp_true {p : Pr} : vp p = true ↔ Vp p := by
  unfold vp dy
  simp only [Bool.and_eq_true, inB_true]
  constructor
  · rintro ⟨a, ⟨c, d⟩, b⟩; exact ⟨a, c, d, b⟩
  · rintro ⟨a, c, d, b⟩; exact ⟨a, ⟨c, d⟩, b⟩
structure Vl (x : Ln) : Prop where
  md : wdB x.md = true
  c0 : 1 ≤ x.col
  c1 : x.col ≤ 9
  s0 : 1 ≤ x.siz
  s1 : x.siz ≤ 1000000000
  n0 : 1 ≤ x.cnt
  n1 : x.cnt ≤ 1000
theorem vl_true {x : Ln} : vl x = true ↔ Vl x := by
  unfold vl
  simp only [Bool.and_eq_true, inB_true]
  constructor
  · rintro ⟨a, ⟨c, d⟩, ⟨e, f⟩, g, h⟩; exact ⟨a, c, d, e, f, g, h⟩
  · rintro ⟨a, c, d, e, f, g, h⟩; exact ⟨a, ⟨c, d⟩, ⟨e, f⟩, g, h⟩
/-- steps, told one by one -/
structure Vst (l : List Stp) : Prop where
  n0 : 1 ≤ l.length
  n1 : l.length ≤ 8
  one : (l.getD 0 default).c = 1
  ok : ∀ i, i < l.length → sok l i = true
theorem vst_true {l : List Stp} : vst l = true ↔ Vst l := by
  unfold vst
  simp only [Bool.and_eq_true, inB_true, decide_eq_true_iff, List.all_eq_true, List.mem_range]
  constructor
  · rintro ⟨⟨a, b⟩, c, d⟩; exact ⟨by omega, by omega, c, d⟩
  · rintro ⟨a, b, c, d⟩; exact ⟨⟨by omega, by omega⟩, c, d⟩
theorem vst_len {l : List Stp} (h : inB 1 (l.length : Int) 8 = false) : vst l = false := by unfold vst; rw [h]; rfl
theorem vst_one {l : List Stp} (h : ¬ (l.getD 0 default).c = 1) : vst l = false := by unfold vst; rw [decide_eq_false h]; simp
theorem vst_bad {l : List Stp} {i : Nat} (hi : i < l.length) (h : sok l i = false) : vst l = false := by
  rw [← Bool.not_eq_true, vst_true]; intro h'; rw [h'.ok i hi] at h; cases h
/-- a form, told part by part -/
theorem vf_parts (f : Fm) (n : Nat) (hn : f.ls.length = n) (x1 x2 x3 x4 x5 : Bool) (h1 : wdB f.cus = x1) (h2 : dy f.d = x2) (h3 : cyB f.cur = x3) (h4 : inB 1 n 40 = x4) (h5 : f.ls.all vl = x5) : vf f = (x1 && (x2 && (x3 && (x4 && x5)))) := by
  subst hn h1 h2 h3 h4 h5; rfl
structure Vf (f : Fm) : Prop where
  cus : wdB f.cus = true
  d0 : 0 ≤ f.d
  d1 : f.d ≤ 100000
  cur : cyB f.cur = true
  n0 : 1 ≤ f.ls.length
  n1 : f.ls.length ≤ 40
  ls : ∀ x, x ∈ f.ls → Vl x
theorem vf_true {f : Fm} : vf f = true ↔ Vf f := by
  unfold vf dy
  simp only [Bool.and_eq_true, inB_true, List.all_eq_true, vl_true]
  constructor
  · rintro ⟨a, ⟨c, d⟩, e, ⟨g, h⟩, i⟩; exact ⟨a, c, d, e, by omega, by omega, i⟩
  · rintro ⟨a, c, d, e, g, h, i⟩; exact ⟨a, ⟨c, d⟩, e, ⟨by omega, by omega⟩, i⟩
/-- what was found -/
def fnd {α : Type} [Inhabited α] (l : List α) : Option Nat → α
  | none => default
  | some j => l.getD j default
theorem lt_step {ks : List Ky} {n : ByteArray} {d : Int} {k : Nat} (hk : k < ks.length) : lt ks n d (k + 1) = if ks[k].1 = n ∧ dof ks (lt ks n d k) + 1 ≤ ks[k].2 ∧ ks[k].2 ≤ d then some k else lt ks n d k := by
  rw [lt, List.getD_eq_getElem?_getD, List.getElem?_eq_getElem hk]; rfl
theorem dof_in {ks : List Ky} {n : ByteArray} {d : Int} (h : ∀ x, x ∈ ks → 0 ≤ x.2 ∧ x.2 ≤ 100000) : ∀ {k : Nat}, k ≤ ks.length → -1 ≤ dof ks (lt ks n d k) ∧ dof ks (lt ks n d k) ≤ 100000 ∧ ((lt ks n d k).isSome = true ↔ 0 ≤ dof ks (lt ks n d k)) := by
  intro k hk
  cases e : lt ks n d k with
  | none => simp [dof]
  | some j =>
    have hj : j < ks.length := by have := lt_lt e; omega
    have h1 := h _ (List.getElem_mem hj)
    simp only [dof, List.getD_eq_getElem?_getD, List.getElem?_eq_getElem hj, Option.getD_some, Option.isSome_some, true_iff]
    omega
theorem dof_some {ks : List Ky} {k : Nat} (hk : k < ks.length) : dof ks (some k) = ks[k].2 := by
  simp [dof, List.getD_eq_getElem?_getD, List.getElem?_eq_getElem hk]
theorem fnd_some {α : Type} [Inhabited α] {l : List α} {k : Nat} (hk : k < l.length) : fnd l (some k) = l[k] := by
  simp [fnd, List.getD_eq_getElem?_getD, List.getElem?_eq_getElem hk]
end Go.Proofs.YtbdnocijhbkclaaGreatDoor.Pl
