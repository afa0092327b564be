/- Plain: temples, valid lists, which two can be a pair; hinges. It imports nothing of the program. -/
namespace Go.Proofs.Ytmjnlmmjfbpogaa.Pl

/-- a temple -/
structure Tm where
  num : Int
  side : Int
  len : Int
  col : Int
deriving DecidableEq
/-- the temple of zeros -/
def zt : Tm := ⟨0, 0, 0, 0⟩
def inB (a x b : Int) : Bool := decide (a ≤ x) && decide (x ≤ b)
theorem inB_true {a x b : Int} : inB a x b = true ↔ a ≤ x ∧ x ≤ b := by unfold inB; rw [Bool.and_eq_true, decide_eq_true_iff, decide_eq_true_iff]
def vt (t : Tm) : Bool := inB 1 t.num 1000000000 && (decide (t.side = 1) || decide (t.side = 2)) && inB 1 t.len 2000 && inB 1 t.col 9
structure Vt (t : Tm) : Prop where
  n1 : 1 ≤ t.num
  n2 : t.num ≤ 1000000000
  s : t.side = 1 ∨ t.side = 2
  l1 : 1 ≤ t.len
  l2 : t.len ≤ 2000
  c1 : 1 ≤ t.col
  c2 : t.col ≤ 9
theorem vt_true {t : Tm} : vt t = true ↔ Vt t := by
  unfold vt
  rw [Bool.and_eq_true, Bool.and_eq_true, Bool.and_eq_true, inB_true, inB_true, inB_true, Bool.or_eq_true, decide_eq_true_iff, decide_eq_true_iff]
  constructor
  · rintro ⟨⟨⟨⟨a, b⟩, c⟩, d, e⟩, f, g⟩; exact ⟨a, b, c, d, e, f, g⟩
  · rintro ⟨a, b, c, d, e, f, g⟩; exact ⟨⟨⟨⟨a, b⟩, c⟩, d, e⟩, f, g⟩
/-- two temples can be a pair -/
def can (a b : Tm) (tol : Int) : Bool := decide (a.side ≠ b.side) && decide (a.col = b.col) && inB (-tol) (a.len - b.len) tol

/-- the rest of a list is valid, given the numbers that came before -/
def vl : List Tm → List Int → Bool
  | [], _ => true
  | a :: l, s => vt a && (!(decide (a.num ∈ s)) && vl l (a.num :: s))
theorem vl_step {l : List Tm} {k : Nat} {s : List Int} (hk : k < l.length) :
    vl (l.drop k) s = (vt (l.getD k zt) && (!(decide ((l.getD k zt).num ∈ s)) && vl (l.drop (k + 1)) ((l.getD k zt).num :: s))) := by
  rw [List.drop_eq_getElem_cons hk, List.getD_eq_getElem?_getD, List.getElem?_eq_getElem hk]; rfl
theorem vl_end {l : List Tm} {s : List Int} : vl (l.drop l.length) s = true := by rw [List.drop_length]; rfl
theorem vl_congr : ∀ {l : List Tm} {s t : List Int}, (∀ x, x ∈ s ↔ x ∈ t) → vl l s = vl l t
  | [], _, _, _ => rfl
  | a :: l, s, t, h => by
    unfold vl
    rw [vl_congr (l := l) (s := a.num :: s) (t := a.num :: t) (fun x => by simp [h])]
    simp [h]
/-- a list of temples is valid -/
def vs (l : List Tm) : Bool := decide (l.length ≤ 60) && vl l []
theorem vl_iff : ∀ {l : List Tm} {s : List Int}, vl l s = true ↔ (∀ t, t ∈ l → Vt t ∧ t.num ∉ s) ∧ l.Pairwise (fun a b => a.num ≠ b.num)
  | [], s => by simp [vl]
  | a :: l, s => by
    unfold vl
    rw [Bool.and_eq_true, Bool.and_eq_true, vt_true, vl_iff]
    simp only [Bool.not_eq_true', decide_eq_false_iff_not, List.mem_cons, List.pairwise_cons, not_or]
    constructor
    · rintro ⟨h1, h2, h3, h4⟩
      refine ⟨?_, fun b hb => Ne.symm (h3 b hb).2.1, h4⟩
      rintro t (rfl | ht)
      · exact ⟨h1, h2⟩
      · exact ⟨(h3 t ht).1, (h3 t ht).2.2⟩
    · rintro ⟨h1, h2, h3⟩
      exact ⟨(h1 a (.inl rfl)).1, (h1 a (.inl rfl)).2, fun t ht => ⟨(h1 t (.inr ht)).1, fun e => h2 t ht e.symm, (h1 t (.inr ht)).2⟩, h3⟩
theorem vs_iff {l : List Tm} : vs l = true ↔ l.length ≤ 60 ∧ (∀ t, t ∈ l → Vt t) ∧ l.Pairwise (fun a b => a.num ≠ b.num) := by
  unfold vs
  rw [Bool.and_eq_true, decide_eq_true_iff, vl_iff]
  simp
/-- the error of a list and a tolerance -/
def ck (l : List Tm) (tol : Int) : Int := if vs l = true then (if inB 0 tol 1000 = true then 0 else 2) else 40

/-- a hinge -/
structure Hg where
  b : Int
  start : Int
  wear : Int
  tight : Int
def zh : Hg := ⟨0, 0, 0, 0⟩
def vhg (h : Hg) : Bool := (decide (h.b = 3) || decide (h.b = 5) || decide (h.b = 7)) && inB 1 h.start 10000 && inB 0 h.wear 1000 && inB 1 h.tight 10000
structure Vh (h : Hg) : Prop where
  b : h.b = 3 ∨ h.b = 5 ∨ h.b = 7
  s1 : 1 ≤ h.start
  s2 : h.start ≤ 10000
  w1 : 0 ≤ h.wear
  w2 : h.wear ≤ 1000
  t1 : 1 ≤ h.tight
  t2 : h.tight ≤ 10000
theorem vhg_true {h : Hg} : vhg h = true ↔ Vh h := by
  unfold vhg
  rw [Bool.and_eq_true, Bool.and_eq_true, Bool.and_eq_true, inB_true, inB_true, inB_true, Bool.or_eq_true, Bool.or_eq_true, decide_eq_true_iff, decide_eq_true_iff, decide_eq_true_iff]
  constructor
  · rintro ⟨⟨⟨a, b, c⟩, d, e⟩, f, g⟩; exact ⟨by omega, b, c, d, e, f, g⟩
  · rintro ⟨a, b, c, d, e, f, g⟩; exact ⟨⟨⟨by omega, b, c⟩, d, e⟩, f, g⟩
end Go.Proofs.Ytmjnlmmjfbpogaa.Pl
