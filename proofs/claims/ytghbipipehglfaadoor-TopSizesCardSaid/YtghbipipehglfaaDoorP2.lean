/- Plain: heads, sizes, needs, faults, grades. It imports nothing of the program. -/
namespace Go.Proofs.YtghbipipehglfaaDoor.Pl

structure Hd where
  num : Int
  m : Nat → Int
structure Sz where
  code : Int
  fr : Nat → Int
  up : Nat → Int
  bd : Nat → Int
  tot : Int

def inB (n a b : Int) : Bool := decide (a ≤ n) && decide (n ≤ b)
theorem inB_true {n a b : Int} : inB n a b = true ↔ a ≤ n ∧ n ≤ b := by unfold inB; simp
theorem inB_false {n a b : Int} : inB n a b = false ↔ ¬ (a ≤ n ∧ n ≤ b) := by rw [← inB_true]; simp

def allK (p : Nat → Bool) (k : Nat) : Bool := (List.range k).all p
theorem allK_true {p : Nat → Bool} {k : Nat} : allK p k = true ↔ ∀ i, i < k → p i = true := by unfold allK; simp
theorem allK_false {p : Nat → Bool} {k i : Nat} (hi : i < k) (h : p i = false) : allK p k = false := by
  cases hh : allK p k with
  | false => rfl
  | true => rw [allK_true.1 hh i hi] at h; cases h
theorem allK_zero (p : Nat → Bool) : allK p 0 = true := rfl
theorem allK_succ {p : Nat → Bool} {k : Nat} (h : allK p k = true) (h2 : p k = true) : allK p (k + 1) = true := by
  rw [allK_true] at *
  intro i hi
  by_cases e : i = k
  · rw [e]; exact h2
  · exact h i (by omega)

def vhI (h : Hd) (i : Nat) : Bool := inB (h.m i) 0 3000
def vh (h : Hd) : Bool := allK (vhI h) 5 && inB h.num 1 1000000000
def vsI (s : Sz) (i : Nat) : Bool := inB (s.fr i) 0 (s.up i) && (decide (s.up i ≤ 3000) && inB (s.bd i) 0 100)
def vsz (s : Sz) : Bool := allK (vsI s) 5 && (inB s.code 1 1000000000 && inB s.tot 0 500)
theorem vh_true {h : Hd} : vh h = true ↔ (∀ i, i < 5 → 0 ≤ h.m i ∧ h.m i ≤ 3000) ∧ 1 ≤ h.num ∧ h.num ≤ 1000000000 := by
  unfold vh; rw [Bool.and_eq_true, allK_true, inB_true]; unfold vhI; simp only [inB_true]
theorem vsI_true {s : Sz} {i : Nat} : vsI s i = true ↔ 0 ≤ s.fr i ∧ s.fr i ≤ s.up i ∧ s.up i ≤ 3000 ∧ 0 ≤ s.bd i ∧ s.bd i ≤ 100 := by
  unfold vsI; simp only [Bool.and_eq_true, inB_true, decide_eq_true_eq]; omega
theorem vsz_true {s : Sz} : vsz s = true ↔ (∀ i, i < 5 → 0 ≤ s.fr i ∧ s.fr i ≤ s.up i ∧ s.up i ≤ 3000 ∧ 0 ≤ s.bd i ∧ s.bd i ≤ 100) ∧ (1 ≤ s.code ∧ s.code ≤ 1000000000) ∧ 0 ≤ s.tot ∧ s.tot ≤ 500 := by
  unfold vsz; rw [Bool.and_eq_true, Bool.and_eq_true, allK_true, inB_true, inB_true]; simp only [vsI_true]

/-- the error of a size and a head -/
def cp (s : Sz) (h : Hd) : Int := if vsz s = true then (if vh h = true then 0 else 30) else 31
theorem cp_ok {s : Sz} {h : Hd} : cp s h = 0 ↔ vsz s = true ∧ vh h = true := by
  unfold cp
  split
  · split <;> simp_all
  · simp_all

def nd (s : Sz) (h : Hd) (i : Nat) : Int := max (max (s.fr i - h.m i) (h.m i - s.up i)) 0
theorem nd_bd {s : Sz} {h : Hd} (hs : vsz s = true) (hh : vh h = true) {i : Nat} (hi : i < 5) : 0 ≤ nd s h i ∧ nd s h i ≤ 3000 := by
  have h1 := (vsz_true.1 hs).1 i hi
  have h2 := (vh_true.1 hh).1 i hi
  unfold nd
  omega
def sumK (f : Nat → Int) : Nat → Int
  | 0 => 0
  | k + 1 => sumK f k + f k
theorem sumK_bd {f : Nat → Int} {B : Int} {k : Nat} (h : ∀ i, i < k → 0 ≤ f i ∧ f i ≤ B) : 0 ≤ sumK f k ∧ sumK f k ≤ k * B := by
  induction k with
  | zero => simp [sumK]
  | succ k ih =>
    have h1 := ih (fun i hi => h i (by omega))
    have h2 := h k (by omega)
    unfold sumK
    rw [Int.natCast_add, Int.add_mul]
    omega
theorem sumK_mono {f g : Nat → Int} {k : Nat} (h : ∀ i, i < k → f i ≤ g i) : sumK f k ≤ sumK g k := by
  induction k with
  | zero => simp [sumK]
  | succ k ih =>
    have h1 := ih (fun i hi => h i (by omega))
    have h2 := h k (by omega)
    unfold sumK
    omega
theorem sumK_congr {f g : Nat → Int} {k : Nat} (h : ∀ i, i < k → f i = g i) : sumK f k = sumK g k := by
  induction k with
  | zero => rfl
  | succ k ih => unfold sumK; rw [ih (fun i hi => h i (by omega)), h k (by omega)]

/-- which of the first k measures must be bent too much -/
def fltK (s : Sz) (h : Hd) (k : Nat) : List Int := ((List.range k).filter fun i => decide (s.bd i < nd s h i)).map Int.ofNat
theorem fltK_succ (s : Sz) (h : Hd) (k : Nat) : fltK s h (k + 1) = if s.bd k < nd s h k then fltK s h k ++ [(k : Int)] else fltK s h k := by
  unfold fltK
  rw [List.range_succ, List.filter_append, List.map_append]
  by_cases hc : s.bd k < nd s h k
  · rw [if_pos hc]; simp [hc]
  · rw [if_neg hc]; simp [hc]
theorem fltK_len (s : Sz) (h : Hd) (k : Nat) : (fltK s h k).length ≤ k := by
  unfold fltK
  rw [List.length_map]
  exact Nat.le_trans (List.length_filter_le _ _) (by simp)
def flt (s : Sz) (h : Hd) : List Int := if s.tot < sumK (nd s h) 5 then fltK s h 5 ++ [5] else fltK s h 5
theorem flt_len (s : Sz) (h : Hd) : (flt s h).length ≤ 6 := by
  have := fltK_len s h 5
  unfold flt
  split
  · simp; omega
  · omega
def fit (s : Sz) (h : Hd) : Bool := decide ((flt s h).length = 0)
theorem fltK_nil {s : Sz} {h : Hd} {k : Nat} : fltK s h k = [] ↔ ∀ i, i < k → nd s h i ≤ s.bd i := by
  unfold fltK
  rw [List.map_eq_nil_iff, List.filter_eq_nil_iff]
  simp
theorem fit_true {s : Sz} {h : Hd} : fit s h = true ↔ (∀ i, i < 5 → nd s h i ≤ s.bd i) ∧ sumK (nd s h) 5 ≤ s.tot := by
  unfold fit flt
  rw [decide_eq_true_eq]
  split
  · constructor
    · intro hh; simp at hh
    · intro ⟨_, hh⟩; omega
  · rw [List.length_eq_zero_iff, fltK_nil]
    exact ⟨fun hh => ⟨hh, by omega⟩, fun hh => hh.1⟩
/-- a size which is wider, or may be bent more, fits as well -/
theorem fit_mono {s w : Sz} {h : Hd} (hn : ∀ i, i < 5 → nd w h i ≤ nd s h i) (hb : ∀ i, i < 5 → s.bd i ≤ w.bd i) (ht : s.tot ≤ w.tot) (hf : fit s h = true) : fit w h = true := by
  rw [fit_true] at *
  refine ⟨fun i hi => ?_, Int.le_trans (sumK_mono hn) (by omega)⟩
  have := hf.1 i hi
  have := hn i hi
  have := hb i hi
  omega
theorem fit_congr {s w : Sz} {h g : Hd} (hn : ∀ i, i < 5 → nd w g i = nd s h i) (hb : ∀ i, i < 5 → s.bd i = w.bd i) (ht : s.tot = w.tot) : fit w g = fit s h := by
  rw [Bool.eq_iff_iff, fit_true, fit_true, sumK_congr hn, ht]
  constructor
  · rintro ⟨h1, h2⟩
    exact ⟨fun i hi => by rw [← hn i hi, hb i hi]; exact h1 i hi, h2⟩
  · rintro ⟨h1, h2⟩
    exact ⟨fun i hi => by rw [hn i hi, ← hb i hi]; exact h1 i hi, h2⟩

/-- n steps greater -/
def grd (s : Sz) (st : Nat → Int) (n : Int) : Sz := { s with code := s.code + n, fr := fun i => s.fr i + n * st i, up := fun i => s.up i + n * st i }
/-- the head that has grown as the size has -/
def grow (h : Hd) (st : Nat → Int) (n : Int) : Hd := { h with m := fun i => h.m i + n * st i }
theorem fit_grown (s : Sz) (h : Hd) (st : Nat → Int) (n : Int) : fit (grd s st n) (grow h st n) = fit s h := by
  refine fit_congr ?_ (fun _ _ => rfl) rfl
  intro i _
  show max (max (s.fr i + n * st i - (h.m i + n * st i)) (h.m i + n * st i - (s.up i + n * st i))) 0 = _
  unfold nd
  congr 2 <;> omega
/-- nothing: the size of an error -/
def zsz : Sz := ⟨0, fun _ => 0, fun _ => 0, fun _ => 0, 0⟩
def stI (st : Nat → Int) (i : Nat) : Bool := inB (st i) (-300) 300
/-- Grade: its error -/
def gE (s : Sz) (st : Nat → Int) (n : Int) : Int := if vsz s = true then (if inB n (-20) 20 = true ∧ allK (stI st) 5 = true ∧ vsz (grd s st n) = true then 0 else 2) else 31
def gV (s : Sz) (st : Nat → Int) (n : Int) : Sz := if gE s st n = 0 then grd s st n else zsz
theorem gE_ok {s : Sz} {st : Nat → Int} {n : Int} : gE s st n = 0 ↔ vsz s = true ∧ inB n (-20) 20 = true ∧ allK (stI st) 5 = true ∧ vsz (grd s st n) = true := by
  unfold gE
  split
  · split <;> simp_all
  · simp_all
theorem gE_size {s : Sz} {st : Nat → Int} {n : Int} (h : vsz s = false) : gE s st n = 31 := by unfold gE; rw [if_neg (by rw [h]; simp)]
theorem gE_arg {s : Sz} {st : Nat → Int} {n : Int} (h : vsz s = true) (h2 : ¬ (inB n (-20) 20 = true ∧ allK (stI st) 5 = true ∧ vsz (grd s st n) = true)) : gE s st n = 2 := by unfold gE; rw [if_pos h, if_neg h2]
theorem gV_ok {s : Sz} {st : Nat → Int} {n : Int} (h : gE s st n = 0) : gV s st n = grd s st n := if_pos h
theorem gV_no {s : Sz} {st : Nat → Int} {n : Int} (h : gE s st n ≠ 0) : gV s st n = zsz := if_neg h
/-- step by step is at once -/
theorem grd_grd (s : Sz) (st : Nat → Int) (m n : Int) : grd (grd s st m) st n = grd s st (m + n) := by
  unfold grd
  simp only [Sz.mk.injEq, and_true]
  refine ⟨by omega, funext fun i => ?_, funext fun i => ?_⟩ <;> (rw [Int.add_mul]; omega)
end Go.Proofs.YtghbipipehglfaaDoor.Pl
