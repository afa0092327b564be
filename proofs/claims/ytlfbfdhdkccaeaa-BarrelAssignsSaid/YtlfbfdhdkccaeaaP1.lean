/- Plain: batches, valid lists, which batch may follow which one, lengths. It imports nothing of the program. -/
namespace Go.Proofs.Ytlfbfdhdkccaeaa.Pl

/-- a batch -/
structure Bt where
  num : Int
  dark : Int
  grain : Int
  h0 : Int
  h1 : Int
  h2 : Int
  h3 : Int
deriving DecidableEq
/-- the batch of zeros -/
def zb : Bt := ⟨0, 0, 0, 0, 0, 0, 0⟩
def inB (a x b : Int) : Bool := decide (a ≤ x) && decide (x ≤ b)
theorem inB_true {a x b : Int} : inB a x b = true ↔ a ≤ x ∧ x ≤ b := by unfold inB; rw [Bool.and_eq_true, decide_eq_true_iff, decide_eq_true_iff]
theorem inB_false {a x b : Int} : inB a x b = false ↔ ¬ (a ≤ x ∧ x ≤ b) := by rw [← inB_true, Bool.not_eq_true]
def vh (b : Bt) : Bool := inB 0 b.h0 100 && (inB 0 b.h1 100 && (inB 0 b.h2 100 && inB 0 b.h3 100))
def vb (b : Bt) : Bool := vh b && (inB 1 b.num 1000000000 && (inB 0 b.dark 9 && inB 0 b.grain 9))
structure Vb (b : Bt) : Prop where
  a0 : 0 ≤ b.h0
  b0 : b.h0 ≤ 100
  a1 : 0 ≤ b.h1
  b1 : b.h1 ≤ 100
  a2 : 0 ≤ b.h2
  b2 : b.h2 ≤ 100
  a3 : 0 ≤ b.h3
  b3 : b.h3 ≤ 100
  n1 : 1 ≤ b.num
  n2 : b.num ≤ 1000000000
  d1 : 0 ≤ b.dark
  d2 : b.dark ≤ 9
  g1 : 0 ≤ b.grain
  g2 : b.grain ≤ 9
theorem vb_true {b : Bt} : vb b = true ↔ Vb b := by
  unfold vb vh
  simp only [Bool.and_eq_true, inB_true]
  constructor
  · rintro ⟨⟨⟨a, b⟩, ⟨c, d⟩, ⟨e, f⟩, g, h⟩, ⟨i, j⟩, ⟨k, l⟩, m, n⟩; exact ⟨a, b, c, d, e, f, g, h, i, j, k, l, m, n⟩
  · rintro ⟨a, b, c, d, e, f, g, h, i, j, k, l, m, n⟩; exact ⟨⟨⟨a, b⟩, ⟨c, d⟩, ⟨e, f⟩, g, h⟩, ⟨i, j⟩, ⟨k, l⟩, m, n⟩
/-- b may follow a -/
def may (a b : Bt) : Bool := decide (a.dark ≤ b.dark) && decide (a.grain ≤ b.grain)
theorem may_true {a b : Bt} : may a b = true ↔ a.dark ≤ b.dark ∧ a.grain ≤ b.grain := by unfold may; rw [Bool.and_eq_true, decide_eq_true_iff, decide_eq_true_iff]
theorem may_false {a b : Bt} : may a b = false ↔ ¬ (a.dark ≤ b.dark ∧ a.grain ≤ b.grain) := by rw [← may_true, Bool.not_eq_true]
theorem may_refl (a : Bt) : may a a = true := may_true.2 ⟨Int.le_refl _, Int.le_refl _⟩
theorem may_trans {a b c : Bt} (h1 : may a b = true) (h2 : may b c = true) : may a c = true := by
  rw [may_true] at *; omega
/-- neither of two batches may follow the other one -/
def apt (a b : Bt) : Bool := !(may a b) && !(may b a)
theorem apt_true {a b : Bt} : apt a b = true ↔ (a.dark < b.dark ∧ b.grain < a.grain) ∨ (b.dark < a.dark ∧ a.grain < b.grain) := by
  unfold apt
  rw [Bool.and_eq_true, Bool.not_eq_true', Bool.not_eq_true', may_false, may_false]
  omega
theorem apt_symm {a b : Bt} : apt a b = apt b a := by unfold apt; rw [Bool.and_comm]
/-- the length of a batch -/
def len (b : Bt) : Int := b.h0 + b.h1 + b.h2 + b.h3
theorem Vb.len0 {b : Bt} (h : Vb b) : 0 ≤ len b ∧ len b ≤ 400 := by
  obtain ⟨a, b, c, d, e, f, g, h, i, j, k, l, m, n⟩ := h
  unfold len; omega

/-- the rest of a list is valid, given the numbers that came before -/
def vl : List Bt → List Int → Bool
  | [], _ => true
  | a :: l, s => vb a && (!(decide (a.num ∈ s)) && vl l (a.num :: s))
theorem vl_step {l : List Bt} {k : Nat} {s : List Int} (hk : k < l.length) :
    vl (l.drop k) s = (vb (l.getD k zb) && (!(decide ((l.getD k zb).num ∈ s)) && vl (l.drop (k + 1)) ((l.getD k zb).num :: s))) := by
  rw [List.drop_eq_getElem_cons hk, List.getD_eq_getElem?_getD, List.getElem?_eq_getElem hk]; rfl
theorem vl_end {l : List Bt} {s : List Int} : vl (l.drop l.length) s = true := by rw [List.drop_length]; rfl
/-- a list of batches is valid -/
def vs (l : List Bt) : Bool := decide (l.length ≤ 40) && vl l []
theorem vl_iff : ∀ {l : List Bt} {s : List Int}, vl l s = true ↔ (∀ t, t ∈ l → Vb t ∧ t.num ∉ s) ∧ l.Pairwise (fun a b => a.num ≠ b.num)
  | [], s => by simp [vl]
  | a :: l, s => by
    unfold vl
    rw [Bool.and_eq_true, Bool.and_eq_true, vb_true, vl_iff]
    simp only [Bool.not_eq_true', decide_eq_false_iff_not, List.mem_cons, List.pairwise_cons, not_or]
    constructor
    · rintro ⟨h1, h2, h3, h4⟩
      refine ⟨?_, fun b hb => Ne.symm (h3 b hb).2.1, h4⟩
      rintro t (rfl | ht)
      · exact ⟨h1, h2⟩
      · exact ⟨(h3 t ht).1, (h3 t ht).2.2⟩
    · rintro ⟨h1, h2, h3⟩
      exact ⟨(h1 a (.inl rfl)).1, (h1 a (.inl rfl)).2, fun t ht => ⟨(h1 t (.inr ht)).1, fun e => h2 t ht e.symm, (h1 t (.inr ht)).2⟩, h3⟩
theorem vs_iff {l : List Bt} : vs l = true ↔ l.length ≤ 40 ∧ (∀ t, t ∈ l → Vb t) ∧ l.Pairwise (fun a b => a.num ≠ b.num) := by
  unfold vs
  rw [Bool.and_eq_true, decide_eq_true_iff, vl_iff]
  simp

/-- the batch with an index; for indexes that are none, batches of numbers of their own -/
def at' (l : List Bt) (i : Nat) : Bt := if h : i < l.length then l[i] else ⟨2000000000 + i, 0, 0, 0, 0, 0, 0⟩
theorem at_lt {l : List Bt} {i : Nat} (h : i < l.length) : at' l i = l[i] := dif_pos h
theorem at_getD {l : List Bt} {i : Nat} (h : i < l.length) : l.getD i zb = at' l i := by
  rw [at_lt h, List.getD_eq_getElem?_getD, List.getElem?_eq_getElem h]; rfl
theorem at_mem {l : List Bt} {i : Nat} (h : i < l.length) : at' l i ∈ l := by rw [at_lt h]; exact List.getElem_mem _
/-- a valid list -/
structure Ok (l : List Bt) : Prop where
  len : l.length ≤ 40
  vb : ∀ i, i < l.length → Vb (at' l i)
  num : ∀ i j, (at' l i).num = (at' l j).num → i = j
theorem ok_of {l : List Bt} (h : vs l = true) : Ok l := by
  obtain ⟨h1, h2, h3⟩ := vs_iff.1 h
  have hv : ∀ i, i < l.length → Vb (at' l i) := fun i hi => by rw [at_lt hi]; exact h2 _ (List.getElem_mem _)
  refine ⟨h1, hv, fun i j e => ?_⟩
  by_cases hi : i < l.length
  · have v1 := (hv i hi).n2
    by_cases hj : j < l.length
    · rw [at_lt hi, at_lt hj] at e
      have hp := List.pairwise_iff_getElem.1 h3
      rcases Nat.lt_trichotomy i j with h | h | h
      · exact absurd e (hp i j hi hj h)
      · exact h
      · exact absurd e.symm (hp j i hj hi h)
    · have e2 : at' l j = ⟨2000000000 + j, 0, 0, 0, 0, 0, 0⟩ := dif_neg hj
      rw [e2] at e
      simp at e
      omega
  · have e1 : at' l i = ⟨2000000000 + i, 0, 0, 0, 0, 0, 0⟩ := dif_neg hi
    by_cases hj : j < l.length
    · have v2 := (hv j hj).n2
      rw [e1] at e
      simp at e
      omega
    · have e2 : at' l j = ⟨2000000000 + j, 0, 0, 0, 0, 0, 0⟩ := dif_neg hj
      rw [e1, e2] at e
      simp at e
      omega
theorem vs_mk {l : List Bt} (h1 : l.length ≤ 40) (h2 : ∀ i, i < l.length → Vb (at' l i)) (h3 : ∀ i j, i < l.length → j < l.length → (at' l i).num = (at' l j).num → i = j) : vs l = true := by
  refine vs_iff.2 ⟨h1, fun t ht => ?_, ?_⟩
  · obtain ⟨i, hi, rfl⟩ := List.mem_iff_getElem.1 ht
    rw [← at_lt hi]
    exact h2 i hi
  · rw [List.pairwise_iff_getElem]
    intro i j hi hj hij e
    rw [← at_lt hi, ← at_lt hj] at e
    have := h3 i j hi hj e
    omega

def cmpI (a b : Int) : Int := if a < b then -1 else if b < a then 1 else 0
theorem cmpI_lt {a b : Int} (h : a < b) : cmpI a b = -1 := if_pos h
theorem cmpI_gt {a b : Int} (h : b < a) : cmpI a b = 1 := by unfold cmpI; rw [if_neg (by omega), if_pos h]
theorem cmpI_eq {a b : Int} (h : a = b) : cmpI a b = 0 := by unfold cmpI; rw [if_neg (by omega), if_neg (by omega)]
def orI (a b : Int) : Int := if a = 0 then b else a
/-- what lightestFirst compares -/
def fbI (s t : Bt) : Int := orI (cmpI s.dark t.dark) (orI (cmpI s.grain t.grain) (cmpI s.num t.num))
/-- s goes ahead of t -/
def Low (s t : Bt) : Prop := s.dark < t.dark ∨ s.dark = t.dark ∧ (s.grain < t.grain ∨ s.grain = t.grain ∧ s.num < t.num)
instance (s t : Bt) : Decidable (Low s t) := inferInstanceAs (Decidable (_ ∨ _))
theorem fbI_low (p q : Bt) : fbI p q < 0 ↔ Low p q := by
  unfold fbI orI cmpI Low
  rcases Int.lt_trichotomy p.dark q.dark with h | h | h <;> rcases Int.lt_trichotomy p.grain q.grain with h' | h' | h' <;> rcases Int.lt_trichotomy p.num q.num with h'' | h'' | h'' <;> simp [*] <;> omega
theorem low_irrefl (a : Bt) : ¬ Low a a := by unfold Low; omega
theorem low_trans {a b c : Bt} (h1 : Low a b) (h2 : Low b c) : Low a c := by unfold Low at *; omega
theorem low_total (a b : Bt) (h : a.num ≠ b.num) : Low a b ∨ Low b a := by unfold Low; omega

/-- the indexes in the order of lightestFirst -/
def ord (l : List Bt) : List Nat := (List.range l.length).mergeSort fun i j => !decide (Low (at' l j) (at' l i))
theorem ord_perm (l : List Bt) : (ord l).Perm (List.range l.length) := List.mergeSort_perm ..
theorem ord_len (l : List Bt) : (ord l).length = l.length := by rw [(ord_perm l).length_eq, List.length_range]
theorem ord_mem {l : List Bt} {i : Nat} : i ∈ ord l ↔ i < l.length := by rw [(ord_perm l).mem_iff, List.mem_range]
theorem ord_nodup (l : List Bt) : (ord l).Nodup := (ord_perm l).nodup_iff.2 List.nodup_range
theorem ord_rise {l : List Bt} (h : Ok l) : (ord l).Pairwise fun i j => Low (at' l i) (at' l j) := by
  have h1 := List.pairwise_mergeSort (le := fun i j => !decide (Low (at' l j) (at' l i))) (fun a b c h1 h2 => by
    simp only [Bool.not_eq_true', decide_eq_false_iff_not] at *
    unfold Low at *; omega) (fun a b => by
    by_cases e : Low (at' l b) (at' l a)
    · have : ¬ Low (at' l a) (at' l b) := by unfold Low at *; omega
      simp [this]
    · simp [e]) (List.range l.length)
  have h2 : (ord l).Pairwise (fun i j => i ≠ j) := ord_nodup l
  refine (h1.and h2).imp fun {i j} hij => ?_
  obtain ⟨h3, h4⟩ := hij
  simp only [Bool.not_eq_true', decide_eq_false_iff_not] at h3
  rcases low_total (at' l i) (at' l j) (fun e => h4 (h.num _ _ e)) with e | e
  · exact e
  · exact absurd e h3
end Go.Proofs.Ytlfbfdhdkccaeaa.Pl
