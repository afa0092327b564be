/- Plain: batches, rows, proofs, runs, times. -/
namespace Go.Proofs.YtlfbfdhdkccaeaaGreat.Pl

/-- a batch -/
structure Bt where
  num : Int
  dark : Int
  grain : Int
  h0 : Int
  h1 : Int
  h2 : Int
  h3 : Int
deriving DecidableEq
/-- the batch of zeros -/
def zb : Bt := ⟨0, 0, 0, 0, 0, 0, 0⟩
def inB (a x b : Int) : Bool := decide (a ≤ x) && decide (x ≤ b)
theorem inB_true {a x b : Int} : inB a x b = true ↔ a ≤ x ∧ x ≤ b := by unfold inB; rw [Bool.and_eq_true, decide_eq_true_iff, decide_eq_true_iff]
theorem inB_false {a x b : Int} : inB a x b = false ↔ ¬ (a ≤ x ∧ x ≤ b) := by rw [← inB_true, Bool.not_eq_true]
def vh (b : Bt) : Bool := inB 0 b.h0 100 && (inB 0 b.h1 100 && (inB 0 b.h2 100 && inB 0 b.h3 100))
def vb (b : Bt) : Bool := vh b && (inB 1 b.num 1000000000 && (inB 0 b.dark 9 && inB 0 b.grain 9))
structure Vb (b : Bt) : Prop where
  a0 : 0 ≤ b.h0
  b0 : b.h0 ≤ 100
  a1 : 0 ≤ b.h1
  b1 : b.h1 ≤ 100
  a2 : 0 ≤ b.h2
  b2 : b.h2 ≤ 100
  a3 : 0 ≤ b.h3
  b3 : b.h3 ≤ 100
  n1 : 1 ≤ b.num
  n2 : b.num ≤ 1000000000
  d1 : 0 ≤ b.dark
  d2 : b.dark ≤ 9
  g1 : 0 ≤ b.grain
  g2 : b.grain ≤ 9
theorem vb_true {b : Bt} : vb b = true ↔ Vb b := by
  unfold vb vh
  simp only [Bool.and_eq_true, inB_true]
  constructor
  · rintro ⟨⟨⟨a, b⟩, ⟨c, d⟩, ⟨e, f⟩, g, h⟩, ⟨i, j⟩, ⟨k, l⟩, m, n⟩; exact ⟨a, b, c, d, e, f, g, h, i, j, k, l, m, n⟩
  · rintro ⟨a, b, c, d, e, f, g, h, i, j, k, l, m, n⟩; exact ⟨⟨⟨a, b⟩, ⟨c, d⟩, ⟨e, f⟩, g, h⟩, ⟨i, j⟩, ⟨k, l⟩, m, n⟩
/-- b may follow a -/
def may (a b : Bt) : Bool := decide (a.dark ≤ b.dark) && decide (a.grain ≤ b.grain)
theorem may_true {a b : Bt} : may a b = true ↔ a.dark ≤ b.dark ∧ a.grain ≤ b.grain := by unfold may; rw [Bool.and_eq_true, decide_eq_true_iff, decide_eq_true_iff]
theorem may_false {a b : Bt} : may a b = false ↔ ¬ (a.dark ≤ b.dark ∧ a.grain ≤ b.grain) := by rw [← may_true, Bool.not_eq_true]
theorem may_refl (a : Bt) : may a a = true := may_true.2 ⟨Int.le_refl _, Int.le_refl _⟩
theorem may_trans {a b c : Bt} (h1 : may a b = true) (h2 : may b c = true) : may a c = true := by
  rw [may_true] at *; omega
/-- neither of two batches may follow the other one -/
def apt (a b : Bt) : Bool := !(may a b) && !(may b a)
theorem apt_true {a b : Bt} : apt a b = true ↔ (a.dark < b.dark ∧ b.grain < a.grain) ∨ (b.dark < a.dark ∧ a.grain < b.grain) := by
  unfold apt
  rw [Bool.and_eq_true, Bool.not_eq_true', Bool.not_eq_true', may_false, may_false]
  omega
theorem apt_symm {a b : Bt} : apt a b = apt b a := by unfold apt; rw [Bool.and_comm]
/-- the length of a batch -/
def len (b : Bt) : Int := b.h0 + b.h1 + b.h2 + b.h3
theorem Vb.len0 {b : Bt} (h : Vb b) : 0 ≤ len b ∧ len b ≤ 400 := by
  obtain ⟨a, b, c, d, e, f, g, h, i, j, k, l, m, n⟩ := h
  unfold len; omega

/-- the rest of a list is valid, given the numbers that came before -/
def vl : List Bt → List Int → Bool
  | [], _ => true
  | a :: l, s => vb a && (!(decide (a.num ∈ s)) && vl l (a.num :: s))
theorem vl_step {l : List Bt} {k : Nat} {s : List Int} (hk : k < l.length) :
    vl (l.drop k) s = (vb (l.getD k zb) && (!(decide ((l.getD k zb).num ∈ s)) && vl (l.drop (k + 1)) ((l.getD k zb).num :: s))) := by
  rw [List.drop_eq_getElem_cons hk, List.getD_eq_getElem?_getD, List.getElem?_eq_getElem hk]; rfl
theorem vl_end {l : List Bt} {s : List Int} : vl (l.drop l.length) s = true := by rw [List.drop_length]; rfl
/-- a list of batches is valid -/
def vs (l : List Bt) : Bool := decide (l.length ≤ 40) && vl l []
theorem vl_iff : ∀ {l : List Bt} {s : List Int}, vl l s = true ↔ (∀ t, t ∈ l → Vb t ∧ t.num ∉ s) ∧ l.Pairwise (fun a b => a.num ≠ b.num)
  | [], s => by simp [vl]
  | a :: l, s => by
    unfold vl
    rw [Bool.and_eq_true, Bool.and_eq_true, vb_true, vl_iff]
    simp only [Bool.not_eq_true', decide_eq_false_iff_not, List.mem_cons, List.pairwise_cons, not_or]
    constructor
    · rintro ⟨h1, h2, h3, h4⟩
      refine ⟨?_, fun b hb => Ne.symm (h3 b hb).2.1, h4⟩
      rintro t (rfl | ht)
      · exact ⟨h1, h2⟩
      · exact ⟨(h3 t ht).1, (h3 t ht).2.2⟩
    · rintro ⟨h1, h2, h3⟩
      exact ⟨(h1 a (.inl rfl)).1, (h1 a (.inl rfl)).2, fun t ht => ⟨(h1 t (.inr ht)).1, fun e => h2 t ht e.symm, (h1 t (.inr ht)).2⟩, h3⟩
theorem vs_iff {l : List Bt} : vs l = true ↔ l.length ≤ 40 ∧ (∀ t, t ∈ l → Vb t) ∧ l.Pairwise (fun a b => a.num ≠ b.num) := by
  unfold vs
  rw [Bool.and_eq_true, decide_eq_true_iff, vl_iff]
  simp

/-- the batch with an index; for indexes that are none, batches of numbers of their own -/
def at' (l : List Bt) (i : Nat) : Bt := if h : i < l.length then l[i] else ⟨2000000000 + i, 0, 0, 0, 0, 0, 0⟩
theorem at_lt {l : List Bt} {i : Nat} (h : i < l.length) : at' l i = l[i] := dif_pos h
theorem at_getD {l : List Bt} {i : Nat} (h : i < l.length) : l.getD i zb = at' l i := by
  rw [at_lt h, List.getD_eq_getElem?_getD, List.getElem?_eq_getElem h]; rfl
theorem at_mem {l : List Bt} {i : Nat} (h : i < l.length) : at' l i ∈ l := by rw [at_lt h]; exact List.getElem_mem _
/-- a valid list -/
structure Ok (l : List Bt) : Prop where
  len : l.length ≤ 40
  vb : ∀ i, i < l.length → Vb (at' l i)
  num : ∀ i j, (at' l i).num = (at' l j).num → i = j
theorem ok_of {l : List Bt} (h : vs l = true) : Ok l := by
  obtain ⟨h1, h2, h3⟩ := vs_iff.1 h
  have hv : ∀ i, i < l.length → Vb (at' l i) := fun i hi => by rw [at_lt hi]; exact h2 _ (List.getElem_mem _)
  refine ⟨h1, hv, fun i j e => ?_⟩
  by_cases hi : i < l.length
  · have v1 := (hv i hi).n2
    by_cases hj : j < l.length
    · rw [at_lt hi, at_lt hj] at e
      have hp := List.pairwise_iff_getElem.1 h3
      rcases Nat.lt_trichotomy i j with h | h | h
      · exact absurd e (hp i j hi hj h)
      · exact h
      · exact absurd e.symm (hp j i hj hi h)
    · have e2 : at' l j = ⟨2000000000 + j, 0, 0, 0, 0, 0, 0⟩ := dif_neg hj
      rw [e2] at e
      simp at e
      omega
  · have e1 : at' l i = ⟨2000000000 + i, 0, 0, 0, 0, 0, 0⟩ := dif_neg hi
    by_cases hj : j < l.length
    · have v2 := (hv j hj).n2
      rw [e1] at e
      simp at e
      omega
    · have e2 : at' l j = ⟨2000000000 + j, 0, 0, 0, 0, 0, 0⟩ := dif_neg hj
      rw [e1, e2] at e
      simp at e
      omega
theorem vs_mk {l : List Bt} (h1 : l.length ≤ 40) (h2 : ∀ i, i < l.length → Vb (at' l i)) (h3 : ∀ i j, i < l.length → j < l.length → (at' l i).num = (at' l j).num → i = j) : vs l = true := by
  refine vs_iff.2 ⟨h1, fun t ht => ?_, ?_⟩
  · obtain ⟨i, hi, rfl⟩ := List.mem_iff_getElem.1 ht
    rw [← at_lt hi]
    exact h2 i hi
  · rw [List.pairwise_iff_getElem]
    intro i j hi hj hij e
    rw [← at_lt hi, ← at_lt hj] at e
    have := h3 i j hi hj e
    omega

def cmpI (a b : Int) : Int := if a < b then -1 else if b < a then 1 else 0
theorem cmpI_lt {a b : Int} (h : a < b) : cmpI a b = -1 := if_pos h
theorem cmpI_gt {a b : Int} (h : b < a) : cmpI a b = 1 := by unfold cmpI; rw [if_neg (by omega), if_pos h]
theorem cmpI_eq {a b : Int} (h : a = b) : cmpI a b = 0 := by unfold cmpI; rw [if_neg (by omega), if_neg (by omega)]
def orI (a b : Int) : Int := if a = 0 then b else a
/-- what lightestFirst compares -/
def fbI (s t : Bt) : Int := orI (cmpI s.dark t.dark) (orI (cmpI s.grain t.grain) (cmpI s.num t.num))
/-- s goes ahead of t -/
def Low (s t : Bt) : Prop := s.dark < t.dark ∨ s.dark = t.dark ∧ (s.grain < t.grain ∨ s.grain = t.grain ∧ s.num < t.num)
instance (s t : Bt) : Decidable (Low s t) := inferInstanceAs (Decidable (_ ∨ _))
theorem fbI_low (p q : Bt) : fbI p q < 0 ↔ Low p q := by
  unfold fbI orI cmpI Low
  rcases Int.lt_trichotomy p.dark q.dark with h | h | h <;> rcases Int.lt_trichotomy p.grain q.grain with h' | h' | h' <;> rcases Int.lt_trichotomy p.num q.num with h'' | h'' | h'' <;> simp [*] <;> omega
theorem low_irrefl (a : Bt) : ¬ Low a a := by unfold Low; omega
theorem low_trans {a b c : Bt} (h1 : Low a b) (h2 : Low b c) : Low a c := by unfold Low at *; omega
theorem low_total (a b : Bt) (h : a.num ≠ b.num) : Low a b ∨ Low b a := by unfold Low; omega

/-- the indexes in the order of lightestFirst -/
def ord (l : List Bt) : List Nat := (List.range l.length).mergeSort fun i j => !decide (Low (at' l j) (at' l i))
theorem ord_perm (l : List Bt) : (ord l).Perm (List.range l.length) := List.mergeSort_perm ..
theorem ord_len (l : List Bt) : (ord l).length = l.length := by rw [(ord_perm l).length_eq, List.length_range]
theorem ord_mem {l : List Bt} {i : Nat} : i ∈ ord l ↔ i < l.length := by rw [(ord_perm l).mem_iff, List.mem_range]
theorem ord_nodup (l : List Bt) : (ord l).Nodup := (ord_perm l).nodup_iff.2 List.nodup_range
theorem ord_rise {l : List Bt} (h : Ok l) : (ord l).Pairwise fun i j => Low (at' l i) (at' l j) := by
  have h1 := List.pairwise_mergeSort (le := fun i j => !decide (Low (at' l j) (at' l i))) (fun a b c h1 h2 => by
    simp only [Bool.not_eq_true', decide_eq_false_iff_not] at *
    unfold Low at *; omega) (fun a b => by
    by_cases e : Low (at' l b) (at' l a)
    · have : ¬ Low (at' l a) (at' l b) := by unfold Low at *; omega
      simp [this]
    · simp [e]) (List.range l.length)
  have h2 : (ord l).Pairwise (fun i j => i ≠ j) := ord_nodup l
  refine (h1.and h2).imp fun {i j} hij => ?_
  obtain ⟨h3, h4⟩ := hij
  simp only [Bool.not_eq_true', decide_eq_false_iff_not] at h3
  rcases low_total (at' l i) (at' l j) (fun e => h4 (h.num _ _ e)) with e | e
  · exact e
  · exact absurd e h3
end Go.Proofs.YtlfbfdhdkccaeaaGreat.Pl

namespace Go.Proofs.YtlfbfdhdkccaeaaGreat.Pl

/-- the last of a row -/
def lst (r : List Nat) : Nat := r.getLast?.getD 0
theorem lst_snoc (r : List Nat) (i : Nat) : lst (r ++ [i]) = i := by simp [lst]
theorem lst_mem {r : List Nat} (h : r ≠ []) : lst r ∈ r := by
  unfold lst
  rw [List.getLast?_eq_some_getLast h]
  exact List.getLast_mem h
/-- the last batch of row k -/
def le (l : List Bt) (rows : List (List Nat)) (k : Nat) : Bt := at' l (lst (rows.getD k []))
/-- the row for a batch, among the first k, and the Grain of its last batch -/
def rfs (l : List Bt) (rows : List (List Nat)) (b : Bt) : Nat → Nat × Int
  | 0 => (rows.length, -1)
  | k + 1 => if may (le l rows k) b = true ∧ (rfs l rows b k).2 < (le l rows k).grain then (k, (le l rows k).grain) else rfs l rows b k
def rf (l : List Bt) (rows : List (List Nat)) (b : Bt) : Nat := (rfs l rows b rows.length).1
/-- a batch is put at the end of row k, or begins a row -/
def put (rows : List (List Nat)) (k i : Nat) : List (List Nat) := if k < rows.length then rows.set k (rows.getD k [] ++ [i]) else rows ++ [[i]]
/-- the rows behind the first k batches -/
def gr (l : List Bt) : Nat → List (List Nat)
  | 0 => []
  | k + 1 => put (gr l k) (rf l (gr l k) (at' l ((ord l).getD k 0))) ((ord l).getD k 0)
/-- the batch number k of the order, and its row -/
def nx (l : List Bt) (k : Nat) : Nat := (ord l).getD k 0
def rw (l : List Bt) (k : Nat) : Nat := rf l (gr l k) (at' l (nx l k))
theorem gr_succ (l : List Bt) (k : Nat) : gr l (k + 1) = put (gr l k) (rw l k) (nx l k) := rfl
/-- by what the batches are barred, behind the first k -/
def br (l : List Bt) : Nat → Nat → Option Nat
  | 0 => fun _ => none
  | k + 1 => fun j => if 0 < rw l k ∧ j = nx l k then some (lst ((gr l (k + 1)).getD (rw l k - 1) [])) else br l k j

/-- what rf finds -/
theorem rfs_spec {l : List Bt} {rows : List (List Nat)} {b : Bt} (hd : ∀ k, k < rows.length → (le l rows k).dark ≤ b.dark ∧ 0 ≤ (le l rows k).grain)
    (hg : ∀ j k, j < k → k < rows.length → (le l rows k).grain < (le l rows j).grain) : ∀ k, k ≤ rows.length →
    (rfs l rows b k = (rows.length, -1) ∧ ∀ a, a < k → b.grain < (le l rows a).grain) ∨
    (∃ p, p < k ∧ rfs l rows b k = (p, (le l rows p).grain) ∧ (le l rows p).grain ≤ b.grain ∧ ∀ a, a < p → b.grain < (le l rows a).grain)
  | 0, _ => .inl ⟨rfl, fun a h => absurd h (Nat.not_lt_zero _)⟩
  | k + 1, hk => by
    obtain ⟨h1, h2⟩ := hd k (by omega)
    rcases rfs_spec hd hg k (by omega) with ⟨e, ha⟩ | ⟨p, hp, e, hl, ha⟩
    · rw [rfs, e]
      by_cases c : (le l rows k).grain ≤ b.grain
      · refine .inr ⟨k, by omega, ?_, c, ha⟩
        rw [if_pos ⟨may_true.2 ⟨h1, c⟩, by simp; omega⟩]
      · refine .inl ⟨if_neg (fun h => c (may_true.1 h.1).2), fun a h => ?_⟩
        rcases Nat.lt_succ_iff_lt_or_eq.1 h with h | rfl
        · exact ha a h
        · omega
    · refine .inr ⟨p, by omega, ?_, hl, ha⟩
      rw [rfs, e, if_neg]
      rintro ⟨_, h⟩
      have := hg p k hp (by omega)
      simp at h
      omega
structure RfOk (l : List Bt) (rows : List (List Nat)) (b : Bt) (r : Nat) : Prop where
  len : r ≤ rows.length
  up : ∀ a, a < r → b.grain < (le l rows a).grain
  at' : r < rows.length → (le l rows r).grain ≤ b.grain
theorem rf_spec {l : List Bt} {rows : List (List Nat)} {b : Bt} (hd : ∀ k, k < rows.length → (le l rows k).dark ≤ b.dark ∧ 0 ≤ (le l rows k).grain)
    (hg : ∀ j k, j < k → k < rows.length → (le l rows k).grain < (le l rows j).grain) : RfOk l rows b (rf l rows b) := by
  unfold rf
  rcases rfs_spec hd hg rows.length (Nat.le_refl _) with ⟨e, ha⟩ | ⟨p, hp, e, hl, ha⟩
  · rw [e]; exact ⟨Nat.le_refl _, ha, fun h => absurd h (Nat.lt_irrefl _)⟩
  · rw [e]; exact ⟨Nat.le_of_lt hp, ha, fun _ => hl⟩

theorem put_len (rows : List (List Nat)) (k i : Nat) : (put rows k i).length = if k < rows.length then rows.length else rows.length + 1 := by
  unfold put; split <;> simp
theorem put_get {rows : List (List Nat)} {k i : Nat} (hk : k ≤ rows.length) (j : Nat) : (put rows k i).getD j [] = if j = k then rows.getD k [] ++ [i] else rows.getD j [] := by
  unfold put
  by_cases c : k < rows.length
  · rw [if_pos c, List.getD_eq_getElem?_getD, List.getElem?_set]
    by_cases e : j = k
    · subst e; simp [c]
    · rw [if_neg (fun h => e h.symm), if_neg e, List.getD_eq_getElem?_getD]
  · rw [if_neg c, List.getD_eq_getElem?_getD, List.getElem?_append]
    obtain rfl : k = rows.length := by omega
    by_cases e : j = rows.length
    · subst e; simp
    · rw [if_neg e]
      by_cases e2 : j < rows.length
      · rw [if_pos e2, List.getD_eq_getElem?_getD]
      · rw [if_neg e2, List.getD_eq_getElem?_getD, List.getElem?_eq_none (by simp; omega), List.getElem?_eq_none (by omega)]

/-- row j -/
abbrev row (l : List Bt) (k j : Nat) : List Nat := (gr l k).getD j []
/-- what holds of the rows behind the first k batches -/
structure Gd (l : List Bt) (k : Nat) : Prop where
  ne : ∀ j, j < (gr l k).length → row l k j ≠ []
  mem : ∀ i, (∃ j, j < (gr l k).length ∧ i ∈ row l k j) ↔ i ∈ (ord l).take k
  one : ∀ i j j', i ∈ row l k j → i ∈ row l k j' → j = j'
  chain : ∀ j, (row l k j).Pairwise (fun a b => may (at' l a) (at' l b) = true)
  nd : ∀ j, (row l k j).Nodup
  dec : ∀ i j, i < j → j < (gr l k).length → (le l (gr l k) j).grain < (le l (gr l k) i).grain
  b0 : ∀ i, i ∈ row l k 0 → br l k i = none
  bs : ∀ i j, 0 < j → i ∈ row l k j → ∃ p, br l k i = some p ∧ p ∈ row l k (j - 1) ∧ (at' l p).dark < (at' l i).dark ∧ (at' l i).grain < (at' l p).grain
  up : ∀ i i' j j', i ∈ row l k j → i' ∈ row l k j' → (at' l i).dark < (at' l i').dark → (at' l i').grain < (at' l i).grain → j < j'
theorem row_lt {l : List Bt} {k j i : Nat} (h : i ∈ row l k j) : j < (gr l k).length := by
  rcases Nat.lt_or_ge j (gr l k).length with h' | h'
  · exact h'
  · unfold row at h
    rw [List.getD_eq_getElem?_getD, List.getElem?_eq_none h'] at h
    cases h
theorem chain_lst {l : List Bt} {r : List Nat} (h : r.Pairwise (fun a b => may (at' l a) (at' l b) = true)) {i : Nat} (hi : i ∈ r) : may (at' l i) (at' l (lst r)) = true := by
  rcases List.eq_nil_or_concat r with rfl | ⟨s, x, rfl⟩
  · cases hi
  · rw [List.concat_eq_append] at *
    rw [lst_snoc]
    rw [List.mem_append, List.mem_singleton] at hi
    rcases hi with hi | rfl
    · exact (List.pairwise_append.1 h).2.2 i hi x (by simp)
    · exact may_refl _
theorem Gd.zero (l : List Bt) : Gd l 0 where
  ne j h := absurd h (Nat.not_lt_zero _)
  mem i := by simp [gr]
  one i j j' h := by simp [row, gr] at h
  chain j := by simp [row, gr]
  nd j := by simp [row, gr]
  dec i j _ h := absurd h (Nat.not_lt_zero _)
  b0 i h := by simp [row, gr] at h
  bs i j _ h := by simp [row, gr] at h
  up i i' j j' h := by simp [row, gr] at h
theorem nx_take {l : List Bt} {k : Nat} (hk : k < l.length) : (ord l).take (k + 1) = (ord l).take k ++ [nx l k] := by
  have h : k < (ord l).length := by rw [ord_len]; exact hk
  rw [List.take_succ_eq_append_getElem h]
  unfold nx
  rw [List.getD_eq_getElem?_getD, List.getElem?_eq_getElem h]; rfl
theorem nx_lt {l : List Bt} {k : Nat} (hk : k < l.length) : nx l k < l.length := by
  have h : k < (ord l).length := by rw [ord_len]; exact hk
  have : nx l k ∈ ord l := by
    unfold nx
    rw [List.getD_eq_getElem?_getD, List.getElem?_eq_getElem h]
    exact List.getElem_mem h
  exact ord_mem.1 this
theorem nx_low {l : List Bt} (h : Ok l) {k : Nat} (hk : k < l.length) {i : Nat} (hi : i ∈ (ord l).take k) : Low (at' l i) (at' l (nx l k)) := by
  have h1 : ((ord l).take (k + 1)).Pairwise (fun i j => Low (at' l i) (at' l j)) := (ord_rise h).sublist (List.take_sublist _ _)
  rw [nx_take hk] at h1
  exact (List.pairwise_append.1 h1).2.2 i hi _ (by simp)
theorem nx_new {l : List Bt} {k : Nat} (hk : k < l.length) : nx l k ∉ (ord l).take k := by
  have h1 : ((ord l).take (k + 1)).Nodup := (ord_nodup l).sublist (List.take_sublist _ _)
  rw [nx_take hk] at h1
  exact fun hm => (List.nodup_append.1 h1).2.2 _ hm _ (by simp) rfl
theorem Gd.rfok {l : List Bt} (h : Ok l) {k : Nat} (hk : k < l.length) (G : Gd l k) : RfOk l (gr l k) (at' l (nx l k)) (rw l k) := by
  refine rf_spec (fun j hj => ?_) G.dec
  have hm : lst (row l k j) ∈ row l k j := lst_mem (G.ne j hj)
  have h1 := (G.mem _).1 ⟨j, hj, hm⟩
  have h2 := nx_low h hk h1
  have h3 := h.vb _ (ord_mem.1 (List.mem_of_mem_take h1))
  refine ⟨?_, h3.g1⟩
  show (at' l (lst (row l k j))).dark ≤ _
  unfold Low at h2
  omega
theorem row_succ {l : List Bt} (h : Ok l) {k : Nat} (hk : k < l.length) (G : Gd l k) (j : Nat) : row l (k + 1) j = if j = rw l k then row l k j ++ [nx l k] else row l k j := by
  unfold row
  rw [gr_succ, put_get (G.rfok h hk).len]
  split
  · rename_i e; subst e; rfl
  · rfl
theorem Gd.step {l : List Bt} (h : Ok l) {k : Nat} (hk : k < l.length) (G : Gd l k) : Gd l (k + 1) := by
  have R := G.rfok h hk
  have HR := row_succ h hk G
  have hlen : (gr l (k + 1)).length = if rw l k < (gr l k).length then (gr l k).length else (gr l k).length + 1 := by rw [gr_succ, put_len]
  have hrl := R.len
  have hmem : ∀ {i j}, i ∈ row l (k + 1) j → i ∈ row l k j ∨ (i = nx l k ∧ j = rw l k) := fun {i j} hi => by
    rw [HR] at hi
    split at hi
    · rcases List.mem_append.1 hi with hi | hi
      · exact .inl hi
      · exact .inr ⟨List.mem_singleton.1 hi, by assumption⟩
    · exact .inl hi
  have hold : ∀ {i j}, i ∈ row l k j → i ∈ row l (k + 1) j := fun {i j} hi => by
    rw [HR]; split
    · exact List.mem_append_left _ hi
    · exact hi
  have hin : ∀ {i j}, i ∈ row l k j → i ∈ (ord l).take k := fun {i j} hi => (G.mem i).1 ⟨j, row_lt hi, hi⟩
  have hnew := nx_new hk
  have hle : ∀ j, le l (gr l (k + 1)) j = if j = rw l k then at' l (nx l k) else le l (gr l k) j := fun j => by
    show at' l (lst (row l (k + 1) j)) = _
    rw [HR]
    split
    · rw [lst_snoc]
    · rfl
  have hgr : ∀ {i j}, i ∈ row l k j → (at' l i).grain ≤ (le l (gr l k) j).grain := fun {i j} hi => (may_true.1 (chain_lst (G.chain j) hi)).2
  have hbr : ∀ i, i ≠ nx l k → br l (k + 1) i = br l k i := fun i hi => if_neg (fun e => hi e.2)
  have hni : ∀ {i j}, i ∈ row l k j → i ≠ nx l k := fun hi e => hnew (e ▸ hin hi)
  refine ⟨fun j hj => ?_, fun i => ?_, fun i j j' h1 h2 => ?_, fun j => ?_, fun j => ?_, fun i j hij hj => ?_, fun i hi => ?_, fun i j h0 hi => ?_, fun i i' j j' h1 h2 hd hg => ?_⟩
  · rw [HR]
    split
    · simp
    · rename_i e
      refine G.ne j ?_
      rw [hlen] at hj
      split at hj <;> omega
  · rw [nx_take hk, List.mem_append, List.mem_singleton, ← G.mem]
    constructor
    · rintro ⟨j, hj, hi⟩
      rcases hmem hi with h1 | ⟨h1, _⟩
      · exact .inl ⟨j, row_lt h1, h1⟩
      · exact .inr h1
    · rintro (⟨j, hj, hi⟩ | rfl)
      · exact ⟨j, row_lt (hold hi), hold hi⟩
      · have : nx l k ∈ row l (k + 1) (rw l k) := by rw [HR, if_pos rfl]; simp
        exact ⟨_, row_lt this, this⟩
  · rcases hmem h1 with a | ⟨a, a'⟩ <;> rcases hmem h2 with b | ⟨b, b'⟩
    · exact G.one i j j' a b
    · exact absurd b (hni a)
    · exact absurd a (hni b)
    · omega
  · rw [HR]
    split
    · rename_i e
      subst e
      rw [List.pairwise_append]
      refine ⟨G.chain _, by simp, fun a ha b hb => ?_⟩
      rw [List.mem_singleton] at hb
      subst hb
      have h1 := hgr ha
      have h2 := R.at' (row_lt ha)
      have h3 := nx_low h hk (hin ha)
      unfold Low at h3
      exact may_true.2 (by omega)
    · exact G.chain j
  · rw [HR]
    split
    · rw [List.nodup_append]
      exact ⟨G.nd _, by simp, fun a ha b hb e => hni ha (by rw [e]; exact List.mem_singleton.1 hb)⟩
    · exact G.nd j
  · rw [hle, hle]
    have hj' : j < (gr l k).length ∨ j = rw l k ∧ j = (gr l k).length := by
      rw [hlen] at hj
      split at hj
      · exact .inl hj
      · omega
    by_cases e : j = rw l k
    · rw [if_pos e, if_neg (by omega)]
      exact R.up i (by omega)
    · have hjl : j < (gr l k).length := by omega
      rw [if_neg e]
      by_cases e2 : i = rw l k
      · rw [if_pos e2]
        have h1 := R.at' (by omega)
        have h2 := G.dec i j hij hjl
        subst e2
        omega
      · rw [if_neg e2]
        exact G.dec i j hij hjl
  · rcases hmem hi with a | ⟨a, a'⟩
    · rw [hbr i (hni a)]; exact G.b0 i a
    · subst a
      show (if 0 < rw l k ∧ nx l k = nx l k then _ else br l k (nx l k)) = none
      rw [if_neg (by omega)]
      have : ∀ m, m ≤ k → br l m (nx l k) = none := fun m => by
        induction m with
        | zero => intro _; rfl
        | succ m ih =>
          intro hm
          have hne : nx l k ≠ nx l m := fun e => hnew (by
            rw [e]
            have h1 : nx l m ∈ (ord l).take (m + 1) := by rw [nx_take (by omega)]; simp
            exact List.take_subset_take_left _ hm h1)
          show (if 0 < rw l m ∧ nx l k = nx l m then _ else br l m (nx l k)) = none
          rw [if_neg (fun e => hne e.2)]
          exact ih (by omega)
      exact this k (Nat.le_refl _)
  · rcases hmem hi with a | ⟨a, a'⟩
    · obtain ⟨p, h1, h2, h3⟩ := G.bs i j h0 a
      exact ⟨p, by rw [hbr i (hni a)]; exact h1, hold h2, h3⟩
    · subst a a'
      have hj1 : rw l k - 1 < (gr l k).length := by omega
      have hrow : row l (k + 1) (rw l k - 1) = row l k (rw l k - 1) := by rw [HR, if_neg (by omega)]
      refine ⟨_, if_pos ⟨h0, rfl⟩, ?_, ?_⟩
      · show lst (row l (k + 1) (rw l k - 1)) ∈ _
        rw [hrow]
        exact lst_mem (G.ne _ hj1)
      · show (at' l (lst (row l (k + 1) (rw l k - 1)))).dark < _ ∧ _ < (at' l (lst (row l (k + 1) (rw l k - 1)))).grain
        rw [hrow]
        have h1 := nx_low h hk (hin (lst_mem (G.ne _ hj1)))
        have h2 := R.up _ (show rw l k - 1 < rw l k by omega)
        change _ < (at' l (lst (row l k (rw l k - 1)))).grain at h2
        unfold Low at h1
        omega
  · rcases hmem h1 with a | ⟨a, a'⟩ <;> rcases hmem h2 with b | ⟨b, b'⟩
    · exact G.up i i' j j' a b hd hg
    · subst b b'
      rcases Nat.lt_or_ge j (rw l k) with c | c
      · exact c
      · have h3 := hgr a
        have h4 := row_lt a
        have h5 := R.at' (by omega)
        rcases Nat.lt_or_eq_of_le c with c | c
        · have := G.dec _ _ c h4
          omega
        · rw [← c] at h3; omega
    · subst a a'
      have := nx_low h hk (hin b)
      unfold Low at this
      omega
    · subst a b; omega
theorem Gd.all {l : List Bt} (h : Ok l) : ∀ k, k ≤ l.length → Gd l k
  | 0, _ => Gd.zero l
  | k + 1, hk => (Gd.all h k (by omega)).step h hk
end Go.Proofs.YtlfbfdhdkccaeaaGreat.Pl

namespace Go.Proofs.YtlfbfdhdkccaeaaGreat.Pl

/-- the rows of all batches -/
def R (l : List Bt) : List (List Nat) := gr l l.length
/-- how many they are -/
def nr (l : List Bt) : Nat := (R l).length
theorem gd {l : List Bt} (h : Ok l) : Gd l l.length := Gd.all h _ (Nat.le_refl _)
theorem every {l : List Bt} (h : Ok l) {i : Nat} (hi : i < l.length) : ∃ j, j < nr l ∧ i ∈ (R l).getD j [] :=
  ((gd h).mem i).2 (by rw [List.take_of_length_le (by rw [ord_len]; exact Nat.le_refl _)]; exact ord_mem.2 hi)
theorem row_idx {l : List Bt} (h : Ok l) {i j : Nat} (hi : i ∈ (R l).getD j []) : i < l.length :=
  ord_mem.1 (List.mem_of_mem_take (((gd h).mem i).1 ⟨j, row_lt hi, hi⟩))
/-- any two of them are apart -/
def Ap (bs : List Bt) : Prop := bs.Pairwise fun a b => apt a b = true
/-- no batches that are apart are more than rows in which all are, and each row's batches may follow each other -/
theorem ap_le {l : List Bt} {rows : List (List Nat)} (hc : ∀ i, i < l.length → ∃ j, j < rows.length ∧ i ∈ rows.getD j [])
    (hr : ∀ j i i', i ∈ rows.getD j [] → i' ∈ rows.getD j [] → may (at' l i) (at' l i') = true ∨ may (at' l i') (at' l i) = true)
    {bs : List Bt} (hb : ∀ b, b ∈ bs → b ∈ l) (ha : Ap bs) : bs.length ≤ rows.length := by
  have hx : ∀ b : Bt, ∃ j, b ∈ l → j < rows.length ∧ ∃ i, at' l i = b ∧ i ∈ rows.getD j [] := fun b => by
    by_cases e : b ∈ l
    · obtain ⟨i, hi, rfl⟩ := List.mem_iff_getElem.1 e
      obtain ⟨j, h1, h2⟩ := hc i hi
      exact ⟨j, fun _ => ⟨h1, i, at_lt hi, h2⟩⟩
    · exact ⟨0, fun h => absurd h e⟩
  obtain ⟨f, hf⟩ := Classical.axiomOfChoice hx
  have h1 : (bs.map f).Nodup := by
    unfold List.Nodup
    rw [List.pairwise_map]
    refine List.Pairwise.imp_of_mem (fun {a b} hA hB hab e => ?_) ha
    obtain ⟨_, i, e1, h1⟩ := hf a (hb a hA)
    obtain ⟨_, i', e2, h2⟩ := hf b (hb b hB)
    rw [e] at h1
    have h3 := hr _ i i' h1 h2
    rw [e1, e2] at h3
    unfold apt at hab
    rw [Bool.and_eq_true, Bool.not_eq_true', Bool.not_eq_true'] at hab
    rcases h3 with h3 | h3
    · rw [h3] at hab; exact absurd hab.1 (by simp)
    · rw [h3] at hab; exact absurd hab.2 (by simp)
  have h2 : bs.map f ⊆ List.range rows.length := fun x hx => by
    obtain ⟨b, h3, rfl⟩ := List.mem_map.1 hx
    exact List.mem_range.2 (hf b (hb b h3)).1
  have := List.Nodup.length_le_of_subset h1 h2
  simpa using this
theorem chain_two {l : List Bt} {r : List Nat} (h : r.Pairwise (fun a b => may (at' l a) (at' l b) = true)) {i i' : Nat} (hi : i ∈ r) (hi' : i' ∈ r) : may (at' l i) (at' l i') = true ∨ may (at' l i') (at' l i) = true := by
  obtain ⟨p, hp, rfl⟩ := List.mem_iff_getElem.1 hi
  obtain ⟨q, hq, rfl⟩ := List.mem_iff_getElem.1 hi'
  have := List.pairwise_iff_getElem.1 h
  rcases Nat.lt_trichotomy p q with h1 | rfl | h1
  · exact .inl (this p q hp hq h1)
  · exact .inl (may_refl _)
  · exact .inr (this q p hq hp h1)
theorem ap_nr {l : List Bt} (h : Ok l) {bs : List Bt} (hb : ∀ b, b ∈ bs → b ∈ l) (ha : Ap bs) : bs.length ≤ nr l :=
  ap_le (fun _ hi => every h hi) (fun j _ _ => chain_two ((gd h).chain j)) hb ha

/-- the batches that bar each other, from i on -/
def chn (b : Nat → Option Nat) : Nat → Nat → List Nat
  | 0, i => [i]
  | n + 1, i => i :: (match b i with
    | none => []
    | some p => chn b n p)
theorem chn_ok {l : List Bt} {k : Nat} (G : Gd l k) : ∀ (n j i : Nat), j ≤ n → i ∈ row l k j →
    (chn (br l k) n i).length = j + 1 ∧ (∀ x, x ∈ chn (br l k) n i → (∃ j', x ∈ row l k j') ∧ (at' l x).dark ≤ (at' l i).dark ∧ (at' l i).grain ≤ (at' l x).grain) ∧
    (chn (br l k) n i).Pairwise (fun a b => (at' l b).dark < (at' l a).dark ∧ (at' l a).grain < (at' l b).grain)
  | 0, j, i, hj, hi => by
    obtain rfl : j = 0 := by omega
    refine ⟨rfl, fun x hx => ?_, by simp [chn]⟩
    obtain rfl := List.mem_singleton.1 hx
    exact ⟨⟨_, hi⟩, Int.le_refl _, Int.le_refl _⟩
  | n + 1, j, i, hj, hi => by
    rcases Nat.eq_zero_or_pos j with rfl | h0
    · rw [chn, G.b0 i hi]
      refine ⟨rfl, fun x hx => ?_, by simp⟩
      obtain rfl := List.mem_singleton.1 hx
      exact ⟨⟨_, hi⟩, Int.le_refl _, Int.le_refl _⟩
    · obtain ⟨p, hp, hpm, hd, hg⟩ := G.bs i j h0 hi
      obtain ⟨h1, h2, h3⟩ := chn_ok G n (j - 1) p (by omega) hpm
      rw [chn, hp]
      refine ⟨by simp only [List.length_cons]; omega, fun x hx => ?_, List.pairwise_cons.2 ⟨fun x hx => ?_, h3⟩⟩
      · rcases List.mem_cons.1 hx with rfl | hx
        · exact ⟨⟨_, hi⟩, Int.le_refl _, Int.le_refl _⟩
        · obtain ⟨a, b, c⟩ := h2 x hx
          exact ⟨a, by omega, by omega⟩
      · obtain ⟨a, b, c⟩ := h2 x hx
        omega
/-- the list of the proof, from the last row on -/
def pf (l : List Bt) : List Nat := if nr l = 0 then [] else chn (br l l.length) 40 (lst ((R l).getD (nr l - 1) []))
theorem nr_le {l : List Bt} (h : Ok l) : nr l ≤ l.length := by
  have hx : ∀ j, ∃ i, j < nr l → i ∈ (R l).getD j [] := fun j => by
    by_cases e : j < nr l
    · exact ⟨_, fun _ => lst_mem ((gd h).ne j e)⟩
    · exact ⟨0, fun h => absurd h e⟩
  obtain ⟨f, hf⟩ := Classical.axiomOfChoice hx
  have h1 : ((List.range (nr l)).map f).Nodup := by
    unfold List.Nodup
    rw [List.pairwise_map]
    refine List.Pairwise.imp_of_mem (fun {a b} hA hB hab e => hab ?_) List.nodup_range
    have h1 := hf a (List.mem_range.1 hA)
    have h2 := hf b (List.mem_range.1 hB)
    rw [e] at h1
    exact (gd h).one _ a b h1 h2
  have h2 : (List.range (nr l)).map f ⊆ List.range l.length := fun x hx => by
    obtain ⟨j, h3, rfl⟩ := List.mem_map.1 hx
    exact List.mem_range.2 (row_idx h (hf j (List.mem_range.1 h3)))
  have := List.Nodup.length_le_of_subset h1 h2
  simpa using this
structure PfOk (l : List Bt) (p : List Nat) : Prop where
  len : p.length = nr l
  lt : ∀ x, x ∈ p → x < l.length
  ap : p.Pairwise fun a b => apt (at' l a) (at' l b) = true
theorem pf_ok {l : List Bt} (h : Ok l) : PfOk l (pf l) := by
  unfold pf
  split
  · rename_i e
    exact ⟨e.symm, (fun x hx => by cases hx), List.Pairwise.nil⟩
  · rename_i e
    have hl := nr_le h
    have h4 := h.len
    obtain ⟨h1, h2, h3⟩ := chn_ok (gd h) 40 (nr l - 1) _ (by omega) (lst_mem ((gd h).ne (nr l - 1) (show nr l - 1 < nr l by omega)))
    exact ⟨by rw [show nr l = nr l - 1 + 1 from by omega]; exact h1, fun x hx => by obtain ⟨⟨j, hj⟩, _⟩ := h2 x hx; exact row_idx h hj, h3.imp fun {a b} hab => apt_true.2 (.inr hab)⟩
theorem PfOk.batches {l : List Bt} {p : List Nat} (h : PfOk l p) : (∀ b, b ∈ p.map (at' l) → b ∈ l) ∧ Ap (p.map (at' l)) ∧ (p.map (at' l)).length = nr l :=
  ⟨fun b hb => by obtain ⟨x, hx, rfl⟩ := List.mem_map.1 hb; exact at_mem (h.lt x hx), List.pairwise_map.2 h.ap, by rw [List.length_map, h.len]⟩
theorem apt_irrefl (a : Bt) : apt a a = false := by unfold apt; rw [may_refl]; rfl
theorem PfOk.nodup {l : List Bt} {p : List Nat} (h : PfOk l p) : p.Nodup := h.ap.imp fun {a b} hab e => by rw [e, apt_irrefl] at hab; cases hab

/-- more batches need no fewer rows -/
theorem nr_mono {l l' : List Bt} (h : Ok l) (h' : Ok l') (hs : ∀ b, b ∈ l → b ∈ l') : nr l ≤ nr l' := by
  obtain ⟨h1, h2, h3⟩ := (pf_ok h).batches
  rw [← h3]
  exact ap_nr h' (fun b hb => hs b (h1 b hb)) h2
theorem nr_more {l l' : List Bt} {m : Bt} (h : Ok l) (h' : Ok l') (hs : ∀ b, b ∈ l' → b ∈ l ∨ b = m) : nr l' ≤ nr l + 1 := by
  obtain ⟨h1, h2, h3⟩ := (pf_ok h').batches
  rw [← h3]
  generalize (pf l').map (at' l') = bs at *
  have h4 : Ap (bs.filter fun b => decide (b ≠ m)) := List.Pairwise.sublist List.filter_sublist h2
  have h5 := ap_nr h (bs := bs.filter fun b => decide (b ≠ m)) (fun b hb => by
    obtain ⟨h6, h7⟩ := List.mem_filter.1 hb
    rcases hs b (h1 b h6) with h8 | h8
    · exact h8
    · simp [h8] at h7) h4
  have hnd : bs.Nodup := h2.imp fun {a b} hab e => by rw [e, apt_irrefl] at hab; cases hab
  have : ∀ bs : List Bt, bs.Nodup → bs.length ≤ (bs.filter fun b => decide (b ≠ m)).length + 1 := fun bs => by
    induction bs with
    | nil => intro _; simp
    | cons a bs ih =>
      intro hn
      obtain ⟨ha, hn⟩ := List.nodup_cons.1 hn
      by_cases e : a = m
      · subst e
        rw [List.filter_cons_of_neg (by simp), List.filter_eq_self.2 (fun b hb => by simp; exact fun e => ha (e ▸ hb))]
        simp
      · rw [List.filter_cons_of_pos (by simpa using e)]
        have := ih hn
        simp only [List.length_cons]; omega
  have := this bs hnd
  omega
theorem nr_twin {l l' : List Bt} {m t : Bt} (h : Ok l) (h' : Ok l') (hs : ∀ b, b ∈ l' → b ∈ l ∨ b = m) (ht : t ∈ l) (hd : t.dark = m.dark) (hg : t.grain = m.grain) : nr l' ≤ nr l := by
  obtain ⟨h1, h2, h3⟩ := (pf_ok h').batches
  rw [← h3]
  generalize (pf l').map (at' l') = bs at *
  have h4 : Ap (bs.map fun b => if b = m then t else b) := by
    unfold Ap
    rw [List.pairwise_map]
    refine h2.imp fun {a b} hab => ?_
    rw [apt_true] at hab ⊢
    have e1 : ∀ a : Bt, (if a = m then t else a).dark = a.dark := fun a => by split <;> simp_all
    have e2 : ∀ a : Bt, (if a = m then t else a).grain = a.grain := fun a => by split <;> simp_all
    rw [e1, e1, e2, e2]
    exact hab
  have h5 := ap_nr h (bs := bs.map fun b => if b = m then t else b) (fun b hb => by
    obtain ⟨a, ha, rfl⟩ := List.mem_map.1 hb
    rcases hs a (h1 a ha) with h8 | h8
    · split
      · exact ht
      · exact h8
    · rw [if_pos h8]; exact ht) h4
  simpa using h5
end Go.Proofs.YtlfbfdhdkccaeaaGreat.Pl

namespace Go.Proofs.YtlfbfdhdkccaeaaGreat.Pl

/-- the error of a list -/
def E (l : List Bt) : Int := if vs l = true then 0 else 60
/-- Rows -/
def Rs (l : List Bt) : List (List Nat) := if vs l = true then R l else []
theorem E_ok {l : List Bt} (h : vs l = true) : E l = 0 := if_pos h
theorem E_no {l : List Bt} (h : vs l = false) : E l = 60 := if_neg (by rw [h]; simp)
theorem Rs_ok {l : List Bt} (h : vs l = true) : Rs l = R l := if_pos h
theorem Rs_no {l : List Bt} (h : vs l = false) : Rs l = [] := if_neg (by rw [h]; simp)
def sl : List Bt := [⟨1, 1, 5, 0, 0, 0, 0⟩, ⟨2, 2, 3, 0, 0, 0, 0⟩]
theorem sl_vs : vs sl = true := by decide
theorem sl_ord : ord sl = [0, 1] := by
  have h1 := ord_perm sl
  have h2 := ord_rise (l := sl) (ok_of (by decide))
  have h3 : (ord sl).length = 2 := ord_len sl
  match ho : ord sl, h3 with
  | [a, b], _ =>
    rw [ho] at h1 h2
    have ha : a < 2 := List.mem_range.1 (h1.mem_iff.1 (by simp))
    have hb : b < 2 := List.mem_range.1 (h1.mem_iff.1 (by simp))
    have hab := (List.pairwise_cons.1 h2).1 b (by simp)
    match a, b, ha, hb with
    | 0, 0, _, _ => exact absurd hab (low_irrefl _)
    | 1, 1, _, _ => exact absurd hab (low_irrefl _)
    | 1, 0, _, _ => exact absurd hab (by decide)
    | 0, 1, _, _ => rfl
theorem sl_Rs : Rs sl = [[0], [1]] := by
  rw [Rs_ok sl_vs]
  show gr sl 2 = _
  unfold gr gr gr
  rw [sl_ord]
  decide
/-- the list of the other sanity check -/
def sr : List Bt := [⟨1, 0, 0, 0, 0, 0, 0⟩, ⟨2, 0, 0, 0, 0, 0, 0⟩]
theorem sr_vs : vs sr = true := by decide
theorem sr_ord : ord sr = [0, 1] := by
  have h1 := ord_perm sr
  have h2 := ord_rise (l := sr) (ok_of (by decide))
  have h3 : (ord sr).length = 2 := ord_len sr
  match ho : ord sr, h3 with
  | [a, b], _ =>
    rw [ho] at h1 h2
    have ha : a < 2 := List.mem_range.1 (h1.mem_iff.1 (by simp))
    have hb : b < 2 := List.mem_range.1 (h1.mem_iff.1 (by simp))
    have hab := (List.pairwise_cons.1 h2).1 b (by simp)
    match a, b, ha, hb with
    | 0, 0, _, _ => exact absurd hab (low_irrefl _)
    | 1, 1, _, _ => exact absurd hab (low_irrefl _)
    | 1, 0, _, _ => exact absurd hab (by decide)
    | 0, 1, _, _ => rfl
theorem sr_Rs : Rs sr = [[0, 1]] := by
  rw [Rs_ok sr_vs]
  show gr sr 2 = _
  unfold gr gr gr
  rw [sr_ord]
  decide
end Go.Proofs.YtlfbfdhdkccaeaaGreat.Pl

namespace Go.Proofs.YtlfbfdhdkccaeaaGreat.Pl

/-- a run -/
structure Rn where
  b : Int
  f : Int
  t : Int
  c : Bool
deriving DecidableEq
/-- the run of zeros -/
def zr : Rn := ⟨0, 0, 0, false⟩
/-- a number of 64 bits -/
def W64 (x : Int) : Prop := -9223372036854775808 ≤ x ∧ x ≤ 9223372036854775807
/-- numbers of 64 bits -/
def Rw (r : Rn) : Prop := W64 r.b ∧ W64 r.f ∧ W64 r.t
end Go.Proofs.YtlfbfdhdkccaeaaGreat.Pl

namespace Go.Proofs.YtlfbfdhdkccaeaaGreat.Pl

/-- the lengths of the first k together, the greatest of them -/
def sk (l : List Bt) : Nat → Int
  | 0 => 0
  | k + 1 => sk l k + len (at' l k)
def mk (l : List Bt) : Nat → Int
  | 0 => 0
  | k + 1 => max (mk l k) (len (at' l k))
/-- the greatest of them with cleaning -/
def rl (l : List Bt) (c : Int) : Nat → Int
  | 0 => 0
  | k + 1 => max (rl l c k) (len (at' l k) + c)
def shop (b c : Int) : Bool := inB 1 b 8 && inB 0 c 100
/-- the error of Bound -/
def bdE (l : List Bt) (b c : Int) : Int := if vs l = true then (if shop b c = true then 0 else 2) else 60
/-- how many barrels are used -/
def us (l : List Bt) (b : Int) : Int := min b (l.length : Int)
/-- what the barrels share, rounded up -/
def cd (S u : Int) : Int := (S + u - 1) / u
/-- Bound -/
def bdV (l : List Bt) (b c : Int) : Int := if bdE l b c = 0 then (if us l b = 0 then 0 else c + max (mk l l.length) (cd (sk l l.length) (us l b))) else 0
theorem bdE_no {l : List Bt} {b c : Int} (h : vs l = false) : bdE l b c = 60 := if_neg (by rw [h]; simp)
theorem bdE_bad {l : List Bt} {b c : Int} (h : vs l = true) (h2 : shop b c = false) : bdE l b c = 2 := by unfold bdE; rw [if_pos h, if_neg (by rw [h2]; simp)]
theorem bdE_ok {l : List Bt} {b c : Int} (h : vs l = true) (h2 : shop b c = true) : bdE l b c = 0 := by unfold bdE; rw [if_pos h, if_pos h2]
theorem shop_true {b c : Int} : shop b c = true ↔ (1 ≤ b ∧ b ≤ 8) ∧ 0 ≤ c ∧ c ≤ 100 := by unfold shop; rw [Bool.and_eq_true, inB_true, inB_true]
theorem bdE_zero {l : List Bt} {b c : Int} (h : bdE l b c = 0) : vs l = true ∧ shop b c = true := by
  unfold bdE at h
  split at h
  · rename_i h1
    split at h
    · rename_i h2; exact ⟨h1, h2⟩
    · cases h
  · cases h
theorem sk_bd {l : List Bt} (h : Ok l) : ∀ k, k ≤ l.length → (0 ≤ sk l k ∧ sk l k ≤ 400 * k) ∧ (0 ≤ mk l k ∧ mk l k ≤ 400)
  | 0, _ => by simp [sk, mk]
  | k + 1, hk => by
    obtain ⟨h1, h2⟩ := sk_bd h k (by omega)
    have h3 := (h.vb k (by omega)).len0
    rw [sk, mk]
    omega
theorem rl_mk {l : List Bt} (h : Ok l) {c : Int} (hc : 0 ≤ c) : ∀ k, k < l.length → rl l c (k + 1) = mk l (k + 1) + c
  | 0, hk => by
    have h3 := (h.vb 0 hk).len0
    rw [rl, mk, rl, mk]
    omega
  | k + 1, hk => by
    have h3 := (h.vb (k + 1) hk).len0
    have h4 := rl_mk h hc k (by omega)
    have h5 := (sk_bd h (k + 1) (by omega)).2
    rw [rl, mk, h4]
    omega
theorem rl_bd {l : List Bt} (h : Ok l) {c : Int} (hc : 0 ≤ c) (hc2 : c ≤ 100) : ∀ k, k ≤ l.length → 0 ≤ rl l c k ∧ rl l c k ≤ 500
  | 0, _ => by simp [rl]
  | k + 1, hk => by
    have h1 := rl_bd h hc hc2 k (by omega)
    have h3 := (h.vb k (by omega)).len0
    rw [rl]
    omega
theorem nat8 {u : Int} (h1 : 1 ≤ u) (h2 : u ≤ 8) : u = 1 ∨ u = 2 ∨ u = 3 ∨ u = 4 ∨ u = 5 ∨ u = 6 ∨ u = 7 ∨ u = 8 := by omega
theorem cd_step {S c b : Int} (h0 : 0 ≤ S) (h1 : 2 ≤ b) (h2 : b ≤ 8) : min (c + cd S (b - 1)) ((S + b * c + b - 1) / b) = c + cd S b := by
  unfold cd
  rcases nat8 (u := b) (by omega) h2 with rfl | rfl | rfl | rfl | rfl | rfl | rfl | rfl <;> omega
theorem cd_down {S b : Int} (h0 : 0 ≤ S) (h1 : 1 ≤ b) (h2 : b ≤ 7) : cd S (b + 1) ≤ cd S b := by
  unfold cd
  rcases nat8 (u := b) h1 (by omega) with rfl | rfl | rfl | rfl | rfl | rfl | rfl | rfl <;> omega
theorem cd_one {S : Int} : cd S 1 = S := by unfold cd; omega
theorem cd_bd {S b : Int} (h0 : 0 ≤ S) (h1 : 1 ≤ b) (h2 : b ≤ 8) : 0 ≤ cd S b ∧ cd S b ≤ S + 8 := by
  unfold cd
  rcases nat8 (u := b) h1 (by omega) with rfl | rfl | rfl | rfl | rfl | rfl | rfl | rfl <;> omega
/-- more barrels never make it later -/
theorem bd_more {l : List Bt} {b c : Int} (h : bdE l b c = 0) (hb : b ≠ 8) : bdE l (b + 1) c = 0 ∧ bdV l (b + 1) c ≤ bdV l b c := by
  obtain ⟨h1, h2⟩ := bdE_zero h
  have h3 := shop_true.1 h2
  have h4 : bdE l (b + 1) c = 0 := bdE_ok h1 (shop_true.2 (by omega))
  refine ⟨h4, ?_⟩
  unfold bdV
  rw [if_pos h, if_pos h4]
  have hs := (sk_bd (ok_of h1) l.length (Nat.le_refl _)).1.1
  generalize sk l l.length = S at *
  generalize mk l l.length = M at *
  unfold us
  by_cases e : (l.length : Int) ≤ b
  · rw [show min (b + 1) (l.length : Int) = min b (l.length : Int) from by omega]
    exact Int.le_refl _
  · rw [show min (b + 1) (l.length : Int) = b + 1 from by omega, show min b (l.length : Int) = b from by omega, if_neg (by omega), if_neg (by omega)]
    have := cd_down (S := S) (b := b) hs (by omega) (by omega)
    omega
end Go.Proofs.YtlfbfdhdkccaeaaGreat.Pl

namespace Go.Proofs.YtlfbfdhdkccaeaaGreat.Pl

/-- hours of cleaning -/
def hc (c : Bool) (cl : Int) : Int := if c = true then cl else 0
/-- a run ends when its hours are over -/
def er (E : Bt) (r : Rn) (cl : Int) : Bool := decide (r.f ≤ r.t) && decide (r.t - r.f = hc r.c cl + len E)
theorem er_true {E : Bt} {r : Rn} {cl : Int} : er E r cl = true ↔ r.f ≤ r.t ∧ r.t - r.f = hc r.c cl + len E := by unfold er; rw [Bool.and_eq_true, decide_eq_true_iff, decide_eq_true_iff]
theorem hc_bd {c : Bool} {cl : Int} (h0 : 0 ≤ cl) (h1 : cl ≤ 100) : 0 ≤ hc c cl ∧ hc c cl ≤ 100 := by unfold hc; split <;> omega
/-- the stage at so many hours behind the begin -/
def sg (E : Bt) (c p : Int) : Int :=
  if p < c then 0 else if p - c < E.h0 then 1 else if p - c - E.h0 < E.h1 then 2 else if p - c - E.h0 - E.h1 < E.h2 then 3 else if p - c - E.h0 - E.h1 - E.h2 < E.h3 then 4 else 5
/-- counted from the end -/
def sb (E : Bt) (q : Int) : Int :=
  if q ≤ E.h3 then 4 else if q - E.h3 ≤ E.h2 then 3 else if q - E.h3 - E.h2 ≤ E.h1 then 2 else if q - E.h3 - E.h2 - E.h1 ≤ E.h0 then 1 else 0
theorem sg_sb {E : Bt} (h : Vb E) {c p q : Int} (hq : 0 < q) (ht : p + q = c + len E) : sg E c p = sb E q := by
  obtain ⟨a0, _, a1, _, a2, _, a3, _⟩ := h
  unfold len at ht
  unfold sg sb
  repeat' split
  all_goals first | rfl | (exfalso; omega)
/-- the error of Stage -/
def stE (l : List Bt) (r : Rn) (cl : Int) : Int := if vs l = true then (if inB 0 cl 100 = true ∧ (0 ≤ r.b ∧ r.b < l.length) ∧ er (at' l r.b.toNat) r cl = true then 0 else 2) else 60
/-- Stage -/
def stV (l : List Bt) (r : Rn) (cl h : Int) : Int := if stE l r cl = 0 then (if h < r.f ∨ r.t ≤ h then 5 else sg (at' l r.b.toNat) (hc r.c cl) (h - r.f)) else 0
theorem stE_no {l : List Bt} {r : Rn} {cl : Int} (h : vs l = false) : stE l r cl = 60 := if_neg (by rw [h]; simp)
theorem stE_bad {l : List Bt} {r : Rn} {cl : Int} (h : vs l = true) (h2 : ¬ (inB 0 cl 100 = true ∧ (0 ≤ r.b ∧ r.b < l.length) ∧ er (at' l r.b.toNat) r cl = true)) : stE l r cl = 2 := by unfold stE; rw [if_pos h, if_neg h2]
theorem stE_ok {l : List Bt} {r : Rn} {cl : Int} (h : vs l = true) (h2 : inB 0 cl 100 = true ∧ (0 ≤ r.b ∧ r.b < l.length) ∧ er (at' l r.b.toNat) r cl = true) : stE l r cl = 0 := by unfold stE; rw [if_pos h, if_pos h2]
end Go.Proofs.YtlfbfdhdkccaeaaGreat.Pl

namespace Go.Proofs.YtlfbfdhdkccaeaaGreat.Pl

/-- the rest of a list has different indexes, given what came before -/
def choL (n : Nat) : List Int → List Int → Bool
  | _, [] => true
  | p, x :: r => inB 0 x ((n : Int) - 1) && (!decide (x ∈ p) && choL n (p ++ [x]) r)
def cho (n : Nat) (xs : List Int) : Bool := choL n [] xs
theorem cho_step {n : Nat} {xs : List Int} {k : Nat} (hk : k < xs.length) :
    choL n (xs.take k) (xs.drop k) = (inB 0 xs[k] ((n : Int) - 1) && (!decide (xs[k] ∈ xs.take k) && choL n (xs.take (k + 1)) (xs.drop (k + 1)))) := by
  rw [List.drop_eq_getElem_cons hk, choL, List.take_succ_eq_append_getElem hk]
theorem cho_end {n : Nat} {xs : List Int} : choL n (xs.take xs.length) (xs.drop xs.length) = true := by rw [List.drop_length]; rfl
theorem choL_iff {n : Nat} : ∀ {r p : List Int}, choL n p r = true ↔ (∀ x, x ∈ r → 0 ≤ x ∧ x < n ∧ x ∉ p) ∧ r.Nodup
  | [], p => by simp [choL]
  | x :: r, p => by
    rw [choL, Bool.and_eq_true, Bool.and_eq_true, inB_true, choL_iff]
    simp only [Bool.not_eq_true', decide_eq_false_iff_not, List.mem_cons, List.nodup_cons, List.mem_append, List.not_mem_nil, or_false, not_or]
    constructor
    · rintro ⟨h1, h2, h3, h4⟩
      refine ⟨?_, fun hm => (h3 x hm).2.2.2 rfl, h4⟩
      rintro y (rfl | hy)
      · exact ⟨h1.1, by omega, h2⟩
      · exact ⟨(h3 y hy).1, (h3 y hy).2.1, (h3 y hy).2.2.1⟩
    · rintro ⟨h1, h2, h3⟩
      exact ⟨⟨(h1 x (.inl rfl)).1, by have := (h1 x (.inl rfl)).2.1; omega⟩, (h1 x (.inl rfl)).2.2, fun y hy => ⟨(h1 y (.inr hy)).1, (h1 y (.inr hy)).2.1, (h1 y (.inr hy)).2.2, fun e => h2 (e ▸ hy)⟩, h3⟩
theorem cho_iff {n : Nat} {xs : List Int} : cho n xs = true ↔ (∀ x, x ∈ xs → 0 ≤ x ∧ x < n) ∧ xs.Nodup := by
  unfold cho; rw [choL_iff]; simp
/-- the error of a list and some indexes -/
def clE (l : List Bt) (xs : List Int) : Int := if vs l = true then (if cho l.length xs = true then 0 else 2) else 60
theorem clE_no {l : List Bt} {xs : List Int} (h : vs l = false) : clE l xs = 60 := if_neg (by rw [h]; simp)
theorem clE_bad {l : List Bt} {xs : List Int} (h : vs l = true) (h2 : cho l.length xs = false) : clE l xs = 2 := by unfold clE; rw [if_pos h, if_neg (by rw [h2]; simp)]
theorem clE_ok {l : List Bt} {xs : List Int} (h : vs l = true) (h2 : cho l.length xs = true) : clE l xs = 0 := by unfold clE; rw [if_pos h, if_pos h2]
/-- the batch with an index that came in -/
def bx (l : List Bt) (xs : List Int) (i : Nat) : Bt := at' l (xs.getD i 0).toNat
/-- the first k are apart -/
def apk (l : List Bt) (xs : List Int) (k : Nat) : Prop := ∀ i, i < k → ∀ j, j < i → apt (bx l xs i) (bx l xs j) = true
instance (l : List Bt) (xs : List Int) (k : Nat) : Decidable (apk l xs k) := inferInstanceAs (Decidable (∀ i, i < k → ∀ j, j < i → apt (bx l xs i) (bx l xs j) = true))
def apB (l : List Bt) (xs : List Int) : Bool := decide (apk l xs xs.length)
/-- Apart -/
def apV (l : List Bt) (xs : List Int) : Bool := if clE l xs = 0 then apB l xs else false
theorem apB_no {l : List Bt} {xs : List Int} {i j : Nat} (hi : i < xs.length) (hj : j < i) (h : apt (bx l xs i) (bx l xs j) = false) : apB l xs = false :=
  decide_eq_false fun hh => by rw [hh i hi j hj] at h; cases h
/-- the lengths of the first k together -/
def lnk (l : List Bt) (xs : List Int) : Nat → Int
  | 0 => 0
  | k + 1 => lnk l xs k + len (bx l xs k)
/-- Length -/
def lnV (l : List Bt) (xs : List Int) : Int := if clE l xs = 0 then lnk l xs xs.length else 0
theorem idx_lt {n : Nat} {xs : List Int} (h : cho n xs = true) {i : Nat} (hi : i < xs.length) : ∃ q : Nat, xs[i] = q ∧ q < n := by
  obtain ⟨h1, h2⟩ := (cho_iff.1 h).1 _ (List.getElem_mem hi)
  exact ⟨xs[i].toNat, by omega, by omega⟩
theorem bx_eq {l : List Bt} {xs : List Int} {i q : Nat} (hi : i < xs.length) (h : xs[i] = q) : bx l xs i = at' l q := by
  unfold bx
  rw [List.getD_eq_getElem?_getD, List.getElem?_eq_getElem hi]
  simp [h]
theorem bx_vb {l : List Bt} (hl : Ok l) {xs : List Int} (h : cho l.length xs = true) {i : Nat} (hi : i < xs.length) : Vb (bx l xs i) := by
  obtain ⟨q, h1, h2⟩ := idx_lt h hi
  rw [bx_eq hi h1]
  exact hl.vb q h2
theorem lnk_bd {l : List Bt} (hl : Ok l) {xs : List Int} (h : cho l.length xs = true) : ∀ k, k ≤ xs.length → 0 ≤ lnk l xs k ∧ lnk l xs k ≤ 400 * k
  | 0, _ => ⟨Int.le_refl _, Int.le_refl _⟩
  | k + 1, hk => by
    have h1 := lnk_bd hl h k (by omega)
    have h2 := (bx_vb hl h (show k < xs.length by omega)).len0
    rw [lnk]
    omega
end Go.Proofs.YtlfbfdhdkccaeaaGreat.Pl

namespace Go.Proofs.YtlfbfdhdkccaeaaGreat.Pl

/-- an element of the row is no index -/
def nix (n : Nat) (row : List Int) : Bool := row.any fun x => !decide (0 ≤ x ∧ x < (n : Int))
/-- a batch may not follow the one in front of it -/
def dty (l : List Bt) (row : List Int) : Bool := !decide (∀ k, k < row.length → 0 < k → may (bx l row (k - 1)) (bx l row k) = true)
/-- each index is there -/
def cov (n : Nat) (f : List Int) : Bool := decide (∀ q : Nat, q < n → (q : Int) ∈ f)
/-- a row is empty -/
def emp (rows : List (List Int)) : Bool := rows.any fun r => decide (r.length = 0)
/-- the first k rows, and some elements of the next -/
def fl (rows : List (List Int)) (k : Nat) : List Int := (rows.take k).flatten
def ckR (l : List Bt) (rows : List (List Int)) : Int :=
  if rows.any (nix l.length) = true then 2 else if ¬ rows.flatten.Nodup then 43 else if rows.any (dty l) = true then 61 else if cov l.length rows.flatten = false ∨ emp rows = true then 4 else 0
def ckE (l : List Bt) (rows : List (List Int)) : Int := if vs l = true then ckR l rows else 60
theorem ckE_no {l : List Bt} {rows : List (List Int)} (h : vs l = false) : ckE l rows = 60 := if_neg (by rw [h]; simp)
theorem ckE_ok {l : List Bt} {rows : List (List Int)} (h : vs l = true) : ckE l rows = ckR l rows := if_pos h
variable {α : Type}
theorem any_all {p : List Int → Bool} {rows : List (List Int)} (h : ∀ i, i < rows.length → p (rows.getD i []) = false) : rows.any p = false := by
  rw [List.any_eq_false]
  intro r hr
  obtain ⟨i, hi, rfl⟩ := List.getElem_of_mem hr
  have := h i hi
  rw [List.getD_eq_getElem?_getD, List.getElem?_eq_getElem hi] at this
  simpa using this
theorem any_one {p : List Int → Bool} {rows : List (List Int)} {i : Nat} (hi : i < rows.length) (h : p (rows.getD i []) = true) : rows.any p = true := by
  rw [List.any_eq_true]
  refine ⟨rows.getD i [], ?_, h⟩
  rw [List.getD_eq_getElem?_getD, List.getElem?_eq_getElem hi]
  exact List.getElem_mem hi
theorem nix_all {n : Nat} {row : List Int} (h : ∀ (i : Nat) (hi : i < row.length), decide (0 ≤ row[i] ∧ row[i] < (n : Int)) = true) : nix n row = false := by
  unfold nix
  rw [List.any_eq_false]
  intro r hr
  obtain ⟨i, hi, rfl⟩ := List.getElem_of_mem hr
  rw [h i hi]; simp
theorem nix_one {n : Nat} {row : List Int} {i : Nat} (hi : i < row.length) (h : decide (0 ≤ row[i] ∧ row[i] < (n : Int)) = false) : nix n row = true := by
  unfold nix
  rw [List.any_eq_true]
  exact ⟨row[i], List.getElem_mem hi, by rw [h]; rfl⟩
theorem fl_zero (rows : List (List Int)) : fl rows 0 = [] := rfl
theorem fl_succ {rows : List (List Int)} {k : Nat} (hk : k < rows.length) : fl rows (k + 1) = fl rows k ++ rows.getD k [] := by
  unfold fl
  rw [List.take_succ_eq_append_getElem hk, List.flatten_append, List.getD_eq_getElem?_getD, List.getElem?_eq_getElem hk]
  simp
theorem fl_all (rows : List (List Int)) : fl rows rows.length = rows.flatten := by unfold fl; rw [List.take_length]
theorem fl_pre {rows : List (List Int)} (k : Nat) : List.Sublist (fl rows k) rows.flatten := by
  have h : rows.flatten = fl rows k ++ (rows.drop k).flatten := by
    unfold fl; rw [← List.flatten_append, List.take_append_drop]
  rw [h]; exact List.sublist_append_left _ _
theorem fl_nodup {rows : List (List Int)} (h : rows.flatten.Nodup) (k : Nat) : (fl rows k).Nodup := h.sublist (fl_pre k)
theorem take_nodup {a row : List Int} (j : Nat) (h : (a ++ row).Nodup) : (a ++ row.take j).Nodup :=
  h.sublist (List.Sublist.append (List.Sublist.refl _) (List.take_sublist _ _))
theorem nodup_snoc {a : List Int} {x : Int} : (a ++ [x]).Nodup ↔ a.Nodup ∧ x ∉ a := by
  rw [List.nodup_append]
  constructor
  · rintro ⟨h1, _, h3⟩
    exact ⟨h1, fun h => h3 x h x (List.mem_singleton.2 rfl) rfl⟩
  · rintro ⟨h1, h2⟩
    refine ⟨h1, by simp, fun a ha b hb e => ?_⟩
    rw [List.mem_singleton] at hb
    subst hb; subst e; exact h2 ha
theorem dty_no {l : List Bt} {row : List Int} (h : ∀ k, k < row.length → 0 < k → may (bx l row (k - 1)) (bx l row k) = true) : dty l row = false := by
  unfold dty; rw [decide_eq_true h]; rfl
theorem dty_yes {l : List Bt} {row : List Int} {k : Nat} (hk : k < row.length) (h0 : 0 < k) (h : may (bx l row (k - 1)) (bx l row k) = false) : dty l row = true := by
  unfold dty
  rw [decide_eq_false (fun h' => by rw [h' k hk h0] at h; cases h)]; rfl
/-- a list of different indexes that are below n, and that has n of them, has them all; and one that has fewer has not -/
theorem cov_len {n : Nat} {f : List Int} (hd : f.Nodup) (hi : ∀ x, x ∈ f → 0 ≤ x ∧ x < (n : Int)) : cov n f = decide (n ≤ f.length) := by
  unfold cov
  rw [decide_eq_decide]
  have hrd : ((List.range n).map (fun q : Nat => (q : Int))).Nodup := by
    rw [List.Nodup, List.pairwise_map]
    exact (List.nodup_range (n := n)).imp (fun {a b} h e => h (by omega))
  have hrl : ((List.range n).map (fun q : Nat => (q : Int))).length = n := by simp
  constructor
  · intro h
    have hs : ∀ x, x ∈ (List.range n).map (fun q : Nat => (q : Int)) → x ∈ f := by
      intro x hx
      obtain ⟨q, hq, rfl⟩ := List.mem_map.1 hx
      exact h q (List.mem_range.1 hq)
    have := List.Nodup.length_le_of_subset hrd (fun x hx => hs x hx)
    rw [hrl] at this; exact this
  · intro h q hq
    have hs : ∀ x, x ∈ f → x ∈ (List.range n).map (fun q : Nat => (q : Int)) := by
      intro x hx
      obtain ⟨h0, h1⟩ := hi x hx
      exact List.mem_map.2 ⟨x.toNat, List.mem_range.2 (by omega), by omega⟩
    by_cases hq' : (q : Int) ∈ f
    · exact hq'
    · have hd2 : ((q : Int) :: f).Nodup := List.nodup_cons.2 ⟨hq', hd⟩
      have := List.Nodup.length_le_of_subset hd2 (l₂ := (List.range n).map (fun q : Nat => (q : Int))) (fun x hx => by
        rcases List.mem_cons.1 hx with rfl | hx
        · exact List.mem_map.2 ⟨q, List.mem_range.2 hq, rfl⟩
        · exact hs x hx)
      rw [hrl, List.length_cons] at this
      omega
theorem nix_mem {n : Nat} {rows : List (List Int)} (h : rows.any (nix n) = false) : ∀ x, x ∈ rows.flatten → 0 ≤ x ∧ x < (n : Int) := by
  intro x hx
  obtain ⟨r, hr, hxr⟩ := List.mem_flatten.1 hx
  have h1 := List.any_eq_false.1 h r hr
  have h2 : nix n r = false := by simpa using h1
  have h3 := List.any_eq_false.1 h2 x hxr
  simpa using h3
theorem row_mem {rows : List (List Int)} {i : Nat} (hi : i < rows.length) {x : Int} (h : x ∈ rows.getD i []) : x ∈ rows.flatten := by
  rw [List.getD_eq_getElem?_getD, List.getElem?_eq_getElem hi] at h
  exact List.mem_flatten.2 ⟨_, List.getElem_mem hi, h⟩
end Go.Proofs.YtlfbfdhdkccaeaaGreat.Pl

namespace Go.Proofs.YtlfbfdhdkccaeaaGreat.Pl

/-- the first of the least -/
def fm (f : Nat → Int) : Nat → Nat
  | 0 => 0
  | k + 1 => if f k < f (fm f k) then k else fm f k
theorem fm_spec (f : Nat → Int) : ∀ n, 0 < n → fm f n < n ∧ (∀ q, q < n → f (fm f n) ≤ f q) ∧ ∀ q, q < fm f n → f (fm f n) < f q
  | 1, _ => by
    have e : fm f 1 = 0 := by unfold fm; split <;> rfl
    rw [e]
    exact ⟨by omega, fun q hq => by obtain rfl : q = 0 := by omega
                                    exact Int.le_refl _, fun q hq => absurd hq (Nat.not_lt_zero _)⟩
  | n + 2, _ => by
    obtain ⟨h1, h2, h3⟩ := fm_spec f (n + 1) (by omega)
    rw [show fm f (n + 2) = if f (n + 1) < f (fm f (n + 1)) then n + 1 else fm f (n + 1) from rfl]
    split
    · rename_i h
      refine ⟨by omega, fun q hq => ?_, fun q hq => ?_⟩
      · rcases Nat.lt_succ_iff_lt_or_eq.1 hq with h' | rfl
        · have := h2 q h'; omega
        · exact Int.le_refl _
      · have := h2 q (by omega); omega
    · rename_i h
      refine ⟨by omega, fun q hq => ?_, h3⟩
      rcases Nat.lt_succ_iff_lt_or_eq.1 hq with h' | rfl
      · exact h2 q h'
      · omega
/-- the least value -/
def mv (f : Nat → Int) : Nat → Int
  | 0 => f 0
  | k + 1 => min (mv f k) (f (k + 1))
theorem mv_fm (f : Nat → Int) (n : Nat) : mv f n = f (fm f (n + 1)) := by
  induction n with
  | zero => rw [show fm f 1 = 0 from by unfold fm; split <;> rfl]; rfl
  | succ n ih =>
    rw [mv, ih]
    rw [show fm f (n + 1 + 1) = if f (n + 1) < f (fm f (n + 1)) then n + 1 else fm f (n + 1) from rfl]
    split <;> omega
theorem fm_one {f : Nat → Int} {n k : Nat} (hn : 0 < n) (h1 : f k = mv f (n - 1)) (h2 : ∀ q, q < k → f q ≠ mv f (n - 1)) : k = fm f n := by
  have e : mv f (n - 1) = f (fm f n) := by rw [mv_fm, show n - 1 + 1 = n from by omega]
  rw [e] at h1 h2
  obtain ⟨p1, p2, p3⟩ := fm_spec f n hn
  rcases Nat.lt_trichotomy k (fm f n) with h | h | h
  · have := p3 k h; omega
  · exact h
  · exact absurd rfl (h2 _ h)
/-- run j of a row that begins at from -/
def mkr (l : List Bt) (cl from_ : Int) (i : Int) (first : Bool) : Rn := ⟨i, from_, from_ + (hc first cl + len (at' l i.toNat)), first⟩
/-- the first j of a row are given to barrel k -/
def ar (l : List Bt) (cl : Int) (s : (Nat → Int) × List (List Rn)) (k : Nat) (row : List Int) : Nat → (Nat → Int) × List (List Rn)
  | 0 => s
  | j + 1 => (fun q => if q = k then (mkr l cl ((ar l cl s k row j).1 k) (row.getD j 0) (decide (j = 0))).t else (ar l cl s k row j).1 q,
    (ar l cl s k row j).2.set k ((ar l cl s k row j).2.getD k [] ++ [mkr l cl ((ar l cl s k row j).1 k) (row.getD j 0) (decide (j = 0))]))
/-- the first m rows are given to b barrels -/
def asg (l : List Bt) (cl : Int) (b : Nat) (rows : List (List Int)) : Nat → (Nat → Int) × List (List Rn)
  | 0 => (fun _ => 0, List.replicate b [])
  | m + 1 => ar l cl (asg l cl b rows m) (fm (asg l cl b rows m).1 b) (rows.getD m []) (rows.getD m []).length
theorem ar_len {l : List Bt} {cl : Int} {s : (Nat → Int) × List (List Rn)} {k : Nat} {row : List Int} : ∀ j, (ar l cl s k row j).2.length = s.2.length
  | 0 => rfl
  | j + 1 => by rw [ar]; simp only [List.length_set]; exact ar_len j
theorem asg_len {l : List Bt} {cl : Int} {b : Nat} {rows : List (List Int)} : ∀ m, (asg l cl b rows m).2.length = b
  | 0 => by simp [asg]
  | m + 1 => by rw [asg, ar_len]; exact asg_len m
/-- all are indexes -/
def Ix (l : List Bt) (row : List Int) : Prop := ∀ j, j < row.length → 0 ≤ row.getD j 0 ∧ row.getD j 0 < (l.length : Int)
theorem mkr_bd {l : List Bt} (h : Ok l) {cl f i : Int} {c : Bool} (h0 : 0 ≤ cl) (h1 : cl ≤ 100) (hi : 0 ≤ i ∧ i < (l.length : Int)) : f ≤ (mkr l cl f i c).t ∧ (mkr l cl f i c).t ≤ f + 500 := by
  have h2 := (h.vb i.toNat (by omega)).len0
  have h3 := hc_bd (c := c) h0 h1
  show f ≤ f + (hc c cl + len (at' l i.toNat)) ∧ f + (hc c cl + len (at' l i.toNat)) ≤ f + 500
  omega
theorem ar_bd {l : List Bt} (h : Ok l) {cl : Int} (h0 : 0 ≤ cl) (h1 : cl ≤ 100) {s : (Nat → Int) × List (List Rn)} {k : Nat} {row : List Int} (hr : Ix l row) {B : Int} (hs : ∀ q, 0 ≤ s.1 q ∧ s.1 q ≤ B) : ∀ j, j ≤ row.length → ∀ q, 0 ≤ (ar l cl s k row j).1 q ∧ (ar l cl s k row j).1 q ≤ B + 500 * j
  | 0, _, q => by have := hs q; simp only [ar]; omega
  | j + 1, hj, q => by
    have ih := ar_bd h h0 h1 (k := k) hr hs j (by omega)
    have hk := mkr_bd h (f := (ar l cl s k row j).1 k) (c := decide (j = 0)) h0 h1 (hr j (by omega))
    have i1 := ih k
    have i2 := ih q
    rw [ar]
    show 0 ≤ (if q = k then _ else _) ∧ (if q = k then _ else _) ≤ _
    split <;> omega
theorem asg_bd {l : List Bt} (h : Ok l) {cl : Int} (h0 : 0 ≤ cl) (h1 : cl ≤ 100) {b : Nat} {rows : List (List Int)} (hr : ∀ m, m < rows.length → Ix l (rows.getD m []) ∧ (rows.getD m []).length ≤ 60) : ∀ m, m ≤ rows.length → ∀ q, 0 ≤ (asg l cl b rows m).1 q ∧ (asg l cl b rows m).1 q ≤ 30000 * m
  | 0, _, q => by simp [asg]
  | m + 1, hm, q => by
    have ih := asg_bd h h0 h1 (b := b) hr m (by omega)
    obtain ⟨h2, h3⟩ := hr m (by omega)
    have := ar_bd h h0 h1 (k := fm (asg l cl b rows m).1 b) h2 ih _ (Nat.le_refl _) q
    rw [asg]
    omega
/-- the error of Assign -/
def asE (l : List Bt) (rows : List (List Int)) (b c : Int) : Int := if ckE l rows = 0 then (if shop b c = true then 0 else 2) else ckE l rows
def asV (l : List Bt) (rows : List (List Int)) (b c : Int) : List (List Rn) := if asE l rows b c = 0 then (asg l c b.toNat rows rows.length).2 else []
theorem asE_no {l : List Bt} {rows : List (List Int)} {b c : Int} (h : ckE l rows ≠ 0) : asE l rows b c = ckE l rows := if_neg h
theorem asE_bad {l : List Bt} {rows : List (List Int)} {b c : Int} (h : ckE l rows = 0) (h2 : shop b c = false) : asE l rows b c = 2 := by unfold asE; rw [if_pos h, if_neg (by rw [h2]; simp)]
theorem asE_ok {l : List Bt} {rows : List (List Int)} {b c : Int} (h : ckE l rows = 0) (h2 : shop b c = true) : asE l rows b c = 0 := by unfold asE; rw [if_pos h, if_pos h2]
theorem asV_no {l : List Bt} {rows : List (List Int)} {b c : Int} (h : asE l rows b c ≠ 0) : asV l rows b c = [] := if_neg h
theorem asV_ok {l : List Bt} {rows : List (List Int)} {b c : Int} (h : asE l rows b c = 0) : asV l rows b c = (asg l c b.toNat rows rows.length).2 := if_pos h
theorem ck_zero {l : List Bt} {rows : List (List Int)} (h : ckE l rows = 0) : vs l = true ∧ (∀ m, m < rows.length → Ix l (rows.getD m [])) := by
  by_cases hv : vs l = true
  rotate_left
  · rw [ckE_no (by simpa using hv)] at h; cases h
  refine ⟨hv, fun m hm j hj => ?_⟩
  rw [ckE_ok hv] at h
  unfold ckR at h
  split at h
  · cases h
  · rename_i hn
    have h1 : nix l.length (rows.getD m []) = false := by
      rcases Bool.eq_false_or_eq_true (nix l.length (rows.getD m [])) with e | e
      · exact absurd (any_one hm e) hn
      · exact e
    unfold nix at h1
    rw [List.any_eq_false] at h1
    generalize rows.getD m [] = r at *
    have := h1 (r.getD j 0) (by rw [List.getD_eq_getElem?_getD, List.getElem?_eq_getElem hj]; exact List.getElem_mem hj)
    simpa using this
end Go.Proofs.YtlfbfdhdkccaeaaGreat.Pl

namespace Go.Proofs.YtlfbfdhdkccaeaaGreat.Pl

/-- the batches of the first k barrels, and of the first j runs of the next -/
def db (runs : List (List Rn)) (k j : Nat) : List Int := ((runs.take k).flatten ++ (runs.getD k []).take j).map (·.b)
/-- what is wrong with run j of a barrel, when some batches are done -/
def jr (l : List Bt) (cl : Int) (done : List Int) (list : List Rn) (j : Nat) : Int :=
  if ¬ ((0 ≤ (list.getD j zr).b ∧ (list.getD j zr).b < (l.length : Int)) ∧ 0 ≤ (list.getD j zr).f) then 2
  else if (list.getD j zr).b ∈ done then 43
  else if (0 < j ∧ (list.getD j zr).f < (list.getD (j - 1) zr).t) ∨ er (at' l (list.getD j zr).b.toNat) (list.getD j zr) cl = false then 73
  else if (list.getD j zr).c = false ∧ (j = 0 ∨ may (at' l (list.getD (j - 1) zr).b.toNat) (at' l (list.getD j zr).b.toNat) = false) then 61
  else 0
def je (l : List Bt) (cl : Int) (runs : List (List Rn)) (k j : Nat) : Int := jr l cl (db runs k j) (runs.getD k []) j
/-- the runs in front of run j of barrel k are right -/
def Jok (l : List Bt) (cl : Int) (runs : List (List Rn)) (k j : Nat) : Prop := ∀ k' j', k' < runs.length → j' < (runs.getD k' []).length → (k' < k ∨ k' = k ∧ j' < j) → je l cl runs k' j' = 0
/-- too many barrels or runs -/
def cwd (runs : List (List Rn)) : Bool := decide (8 < runs.length) || runs.any fun r => decide (100 < r.length)
/-- what Judge answers -/
def IsJ (l : List Bt) (cl : Int) (runs : List (List Rn)) (a b e : Int) : Prop :=
  if vs l = true then
    if inB 0 cl 100 = true ∧ cwd runs = false then
      (∃ k j : Nat, k < runs.length ∧ j < (runs.getD k []).length ∧ Jok l cl runs k j ∧ je l cl runs k j ≠ 0 ∧ a = k ∧ b = j ∧ e = je l cl runs k j) ∨
      (Jok l cl runs runs.length 0 ∧ a = 0 ∧ b = 0 ∧ e = if cov l.length (runs.flatten.map (·.b)) = true then 0 else 4)
    else a = 0 ∧ b = 0 ∧ e = 2
  else a = 0 ∧ b = 0 ∧ e = 60
theorem IsJ.uniq {l : List Bt} {cl : Int} {runs : List (List Rn)} {a b e a' b' e' : Int} (h : IsJ l cl runs a b e) (h' : IsJ l cl runs a' b' e') : a = a' ∧ b = b' ∧ e = e' := by
  unfold IsJ at h h'
  split at h
  · rename_i hv
    rw [if_pos hv] at h'
    split at h
    · rename_i hc
      rw [if_pos hc] at h'
      rcases h with ⟨k, j, h1, h2, h3, h4, h5, h6, h7⟩ | ⟨h3, h5, h6, h7⟩
      · rcases h' with ⟨k', j', g1, g2, g3, g4, g5, g6, g7⟩ | ⟨g3, g5, g6, g7⟩
        · have hk : k = k' := by
            rcases Nat.lt_trichotomy k k' with c | c | c
            · exact absurd (g3 k j h1 h2 (.inl c)) h4
            · exact c
            · exact absurd (h3 k' j' g1 g2 (.inl c)) g4
          subst hk
          have hj : j = j' := by
            rcases Nat.lt_trichotomy j j' with c | c | c
            · exact absurd (g3 k j h1 h2 (.inr ⟨rfl, c⟩)) h4
            · exact c
            · exact absurd (h3 k j' g1 g2 (.inr ⟨rfl, c⟩)) g4
          subst hj
          exact ⟨by omega, by omega, by omega⟩
        · exact absurd (g3 k j h1 h2 (.inl h1)) h4
      · rcases h' with ⟨k', j', g1, g2, g3, g4, g5, g6, g7⟩ | ⟨g3, g5, g6, g7⟩
        · exact absurd (h3 k' j' g1 g2 (.inl g1)) g4
        · exact ⟨by omega, by omega, by rw [h7, g7]⟩
    · rename_i hc
      rw [if_neg hc] at h'
      omega
  · rename_i hv
    rw [if_neg hv] at h'
    omega
theorem isJ_no {l : List Bt} {cl : Int} {runs : List (List Rn)} (h : vs l = false) : IsJ l cl runs 0 0 60 := by unfold IsJ; rw [if_neg (by rw [h]; simp)]; exact ⟨rfl, rfl, rfl⟩
theorem isJ_bad {l : List Bt} {cl : Int} {runs : List (List Rn)} (h : vs l = true) (h2 : ¬ (inB 0 cl 100 = true ∧ cwd runs = false)) : IsJ l cl runs 0 0 2 := by unfold IsJ; rw [if_pos h, if_neg h2]; exact ⟨rfl, rfl, rfl⟩
theorem isJ_at {l : List Bt} {cl : Int} {runs : List (List Rn)} (h : vs l = true) (h2 : inB 0 cl 100 = true ∧ cwd runs = false) {k j : Nat} (hk : k < runs.length) (hj : j < (runs.getD k []).length) (h3 : Jok l cl runs k j) {e : Int} (he : je l cl runs k j = e) (h4 : e ≠ 0) : IsJ l cl runs k j e := by
  subst he
  unfold IsJ; rw [if_pos h, if_pos h2]; exact .inl ⟨k, j, hk, hj, h3, h4, rfl, rfl, rfl⟩
theorem isJ_end {l : List Bt} {cl : Int} {runs : List (List Rn)} (h : vs l = true) (h2 : inB 0 cl 100 = true ∧ cwd runs = false) (h3 : Jok l cl runs runs.length 0) {e : Int} (he : (if cov l.length (runs.flatten.map (·.b)) = true then 0 else 4) = e) : IsJ l cl runs 0 0 e := by
  unfold IsJ; rw [if_pos h, if_pos h2]; exact .inr ⟨h3, rfl, rfl, he.symm⟩
theorem Jok.zero {l : List Bt} {cl : Int} {runs : List (List Rn)} : Jok l cl runs 0 0 := fun k' j' _ _ h => by omega
theorem Jok.step {l : List Bt} {cl : Int} {runs : List (List Rn)} {k j : Nat} (h : Jok l cl runs k j) (he : je l cl runs k j = 0) : Jok l cl runs k (j + 1) := fun k' j' h1 h2 h3 => by
  rcases h3 with h3 | ⟨rfl, h3⟩
  · exact h k' j' h1 h2 (.inl h3)
  · rcases Nat.lt_succ_iff_lt_or_eq.1 h3 with h4 | rfl
    · exact h k' j' h1 h2 (.inr ⟨rfl, h4⟩)
    · exact he
theorem Jok.next {l : List Bt} {cl : Int} {runs : List (List Rn)} {k j : Nat} (h : Jok l cl runs k j) (hj : (runs.getD k []).length ≤ j) : Jok l cl runs (k + 1) 0 := fun k' j' h1 h2 h3 => by
  rcases h3 with h3 | ⟨rfl, h3⟩
  · rcases Nat.lt_succ_iff_lt_or_eq.1 h3 with h4 | rfl
    · exact h k' j' h1 h2 (.inl h4)
    · exact h k' j' h1 h2 (.inr ⟨rfl, by omega⟩)
  · omega
theorem db_zero (runs : List (List Rn)) : db runs 0 0 = [] := by simp [db]
theorem db_succ {runs : List (List Rn)} {k j : Nat} (hj : j < (runs.getD k []).length) : db runs k (j + 1) = db runs k j ++ [((runs.getD k []).getD j zr).b] := by
  unfold db
  rw [List.take_succ_eq_append_getElem hj, ← List.append_assoc, List.map_append, List.getD_eq_getElem?_getD (l := runs.getD k []), List.getElem?_eq_getElem hj]; rfl
theorem db_next {runs : List (List Rn)} {k j : Nat} (hk : k < runs.length) (hj : (runs.getD k []).length ≤ j) : db runs k j = db runs (k + 1) 0 := by
  unfold db
  rw [List.take_of_length_le hj, List.take_succ_eq_append_getElem hk, List.flatten_append, List.getD_eq_getElem?_getD, List.getElem?_eq_getElem hk]
  simp
theorem db_end (runs : List (List Rn)) : db runs runs.length 0 = runs.flatten.map (·.b) := by simp [db]
theorem jr_arg {l : List Bt} {cl : Int} {done : List Int} {list : List Rn} {j : Nat} (h : ¬ ((0 ≤ (list.getD j zr).b ∧ (list.getD j zr).b < (l.length : Int)) ∧ 0 ≤ (list.getD j zr).f)) : jr l cl done list j = 2 := if_pos h
section
variable {l : List Bt} {cl : Int} {done : List Int} {list : List Rn} {j : Nat}
theorem jr_twice (h : (0 ≤ (list.getD j zr).b ∧ (list.getD j zr).b < (l.length : Int)) ∧ 0 ≤ (list.getD j zr).f) (h2 : (list.getD j zr).b ∈ done) : jr l cl done list j = 43 := by
  unfold jr; rw [if_neg (by simp only [Classical.not_not]; exact h), if_pos h2]
theorem jr_clash (h : (0 ≤ (list.getD j zr).b ∧ (list.getD j zr).b < (l.length : Int)) ∧ 0 ≤ (list.getD j zr).f) (h2 : (list.getD j zr).b ∉ done) (h3 : (0 < j ∧ (list.getD j zr).f < (list.getD (j - 1) zr).t) ∨ er (at' l (list.getD j zr).b.toNat) (list.getD j zr) cl = false) : jr l cl done list j = 73 := by
  unfold jr; rw [if_neg (by simp only [Classical.not_not]; exact h), if_neg h2, if_pos h3]
theorem jr_dirty (h : (0 ≤ (list.getD j zr).b ∧ (list.getD j zr).b < (l.length : Int)) ∧ 0 ≤ (list.getD j zr).f) (h2 : (list.getD j zr).b ∉ done) (h3 : ¬ ((0 < j ∧ (list.getD j zr).f < (list.getD (j - 1) zr).t) ∨ er (at' l (list.getD j zr).b.toNat) (list.getD j zr) cl = false)) (h4 : (list.getD j zr).c = false ∧ (j = 0 ∨ may (at' l (list.getD (j - 1) zr).b.toNat) (at' l (list.getD j zr).b.toNat) = false)) : jr l cl done list j = 61 := by
  unfold jr; rw [if_neg (by simp only [Classical.not_not]; exact h), if_neg h2, if_neg h3, if_pos h4]
theorem jr_ok (h : (0 ≤ (list.getD j zr).b ∧ (list.getD j zr).b < (l.length : Int)) ∧ 0 ≤ (list.getD j zr).f) (h2 : (list.getD j zr).b ∉ done) (h3 : ¬ ((0 < j ∧ (list.getD j zr).f < (list.getD (j - 1) zr).t) ∨ er (at' l (list.getD j zr).b.toNat) (list.getD j zr) cl = false)) (h4 : ¬ ((list.getD j zr).c = false ∧ (j = 0 ∨ may (at' l (list.getD (j - 1) zr).b.toNat) (at' l (list.getD j zr).b.toNat) = false))) : jr l cl done list j = 0 := by
  unfold jr; rw [if_neg (by simp only [Classical.not_not]; exact h), if_neg h2, if_neg h3, if_neg h4]
end
/-- when the runs in front are right, their batches are different indexes -/
theorem Jok.done {l : List Bt} {cl : Int} {runs : List (List Rn)} : ∀ k, k ≤ runs.length → ∀ j, (k < runs.length ∨ j = 0) → j ≤ (runs.getD k []).length → Jok l cl runs k j → (db runs k j).Nodup ∧ ∀ x, x ∈ db runs k j → 0 ≤ x ∧ x < (l.length : Int)
  | 0, _, 0, _, _, _ => by rw [db_zero]; exact ⟨List.nodup_nil, fun x hx => absurd hx List.not_mem_nil⟩
  | k + 1, hk, 0, _, _, h => by
    have ih := Jok.done k (by omega) (runs.getD k []).length (.inl (by omega)) (Nat.le_refl _) (fun k' j' h1 h2 h3 => h k' j' h1 h2 (.inl (by omega)))
    rw [db_next (by omega) (Nat.le_refl _)] at ih
    exact ih
  | k, hk, j + 1, h0, hj, h => by
    have hk' : k < runs.length := by omega
    have ih := Jok.done k hk j (.inl hk') (by omega) (fun k' j' h1 h2 h3 => h k' j' h1 h2 (by omega))
    have he := h k j hk' (by omega) (.inr ⟨rfl, by omega⟩)
    rw [db_succ (by omega)]
    unfold je jr at he
    split at he
    · cases he
    rename_i h1
    split at he
    · cases he
    rename_i h2
    have h1 := Classical.not_not.1 h1
    refine ⟨nodup_snoc.2 ⟨ih.1, h2⟩, fun x hx => ?_⟩
    rcases List.mem_append.1 hx with c | c
    · exact ih.2 x c
    · rw [List.mem_singleton.1 c]; exact h1.1
termination_by k _ j => (k, j)
end Go.Proofs.YtlfbfdhdkccaeaaGreat.Pl

namespace Go.Proofs.YtlfbfdhdkccaeaaGreat.Pl

/-- the hours of some batches -/
def hs (l : List Bt) : List Int → Int
  | [] => 0
  | i :: d => len (at' l i.toNat) + hs l d
theorem hs_append (l : List Bt) : ∀ a b, hs l (a ++ b) = hs l a + hs l b
  | [], b => by simp [hs]
  | i :: a, b => by rw [List.cons_append, hs, hs, hs_append l a b]; omega
theorem hs_erase (l : List Bt) {x : Int} : ∀ {d : List Int}, x ∈ d → hs l d = len (at' l x.toNat) + hs l (d.erase x)
  | [], h => absurd h List.not_mem_nil
  | i :: d, h => by
    by_cases e : i = x
    · subst e; rw [List.erase_cons_head]; rfl
    · rw [List.erase_cons_tail (by simpa using e), hs, hs]
      have := hs_erase l (d := d) (by
        rcases List.mem_cons.1 h with c | c
        · exact absurd c.symm e
        · exact c)
      omega
theorem hs_nn {l : List Bt} (h : Ok l) : ∀ {d : List Int}, (∀ x, x ∈ d → 0 ≤ x ∧ x < (l.length : Int)) → 0 ≤ hs l d
  | [], _ => Int.le_refl _
  | i :: d, hd => by
    have h1 := hd i (List.mem_cons_self ..)
    have h2 := (h.vb i.toNat (by omega)).len0
    have h3 := hs_nn h (d := d) (fun x hx => hd x (List.mem_cons_of_mem _ hx))
    rw [hs]; omega
/-- what has all indexes takes as long as all together, at least -/
theorem sk_hs {l : List Bt} (h : Ok l) : ∀ K (d : List Int), K ≤ l.length → d.Nodup → (∀ x, x ∈ d → 0 ≤ x ∧ x < (l.length : Int)) → (∀ q : Nat, q < K → (q : Int) ∈ d) → sk l K ≤ hs l d
  | 0, d, _, _, hi, _ => hs_nn h hi
  | K + 1, d, hK, hd, hi, hc => by
    have h1 := sk_hs h K (d.erase (K : Int)) (by omega) (hd.erase _) (fun x hx => hi x (List.mem_of_mem_erase hx)) (fun q hq => by
      rw [List.Nodup.mem_erase_iff hd]
      exact ⟨by omega, hc q (by omega)⟩)
    rw [hs_erase l (hc K (Nat.lt_succ_self K)), sk, show (K : Int).toNat = K from rfl]
    omega
/-- what is right about a run -/
structure Rg (l : List Bt) (cl : Int) (list : List Rn) (j : Nat) : Prop where
  b0 : 0 ≤ (list.getD j zr).b
  b1 : (list.getD j zr).b < (l.length : Int)
  f0 : 0 ≤ (list.getD j zr).f
  fit : (list.getD j zr).f ≤ (list.getD j zr).t ∧ (list.getD j zr).t - (list.getD j zr).f = hc (list.getD j zr).c cl + len (at' l (list.getD j zr).b.toNat)
  chain : 0 < j → (list.getD (j - 1) zr).t ≤ (list.getD j zr).f
  first : j = 0 → (list.getD j zr).c = true
  mays : 0 < j → (list.getD j zr).c = false → may (at' l (list.getD (j - 1) zr).b.toNat) (at' l (list.getD j zr).b.toNat) = true
theorem Rg.of {l : List Bt} {cl : Int} {done : List Int} {list : List Rn} {j : Nat} (h : jr l cl done list j = 0) : Rg l cl list j := by
  unfold jr at h
  split at h
  · cases h
  rename_i h1
  split at h
  · cases h
  split at h
  · cases h
  rename_i h3
  split at h
  · cases h
  rename_i h4
  have h1 := Classical.not_not.1 h1
  have h5 : er (at' l (list.getD j zr).b.toNat) (list.getD j zr) cl = true := by
    cases e : er (at' l (list.getD j zr).b.toNat) (list.getD j zr) cl
    · exact absurd (.inr e) h3
    · rfl
  refine ⟨h1.1.1, h1.1.2, h1.2, er_true.1 h5, fun h0 => ?_, fun h0 => ?_, fun h0 hc => ?_⟩
  · rcases Int.lt_or_le (list.getD j zr).f (list.getD (j - 1) zr).t with c | c
    · exact absurd (.inl ⟨h0, c⟩) h3
    · exact c
  · cases e : (list.getD j zr).c
    · exact absurd ⟨e, .inl h0⟩ h4
    · rfl
  · cases e : may (at' l (list.getD (j - 1) zr).b.toNat) (at' l (list.getD j zr).b.toNat)
    · exact absurd ⟨hc, .inr e⟩ h4
    · rfl
theorem Rg.jr {l : List Bt} {cl : Int} {done : List Int} {list : List Rn} {j : Nat} (h : Rg l cl list j) (hd : (list.getD j zr).b ∉ done) : jr l cl done list j = 0 := by
  refine jr_ok ⟨⟨h.b0, h.b1⟩, h.f0⟩ hd ?_ ?_
  · rintro (⟨h0, h1⟩ | h1)
    · have := h.chain h0; omega
    · rw [er_true.2 h.fit] at h1; cases h1
  · rintro ⟨h1, h2⟩
    rcases Nat.eq_zero_or_pos j with h0 | h0
    · rw [h.first h0] at h1; cases h1
    · rcases h2 with h2 | h2
      · omega
      · rw [h.mays h0 h1] at h2; cases h2
theorem take_getD {α : Type} {list : List α} {j : Nat} (z : α) (hj : j < list.length) : list.take (j + 1) = list.take j ++ [list.getD j z] := by
  rw [List.take_succ_eq_append_getElem hj, List.getD_eq_getElem?_getD, List.getElem?_eq_getElem hj]; rfl
/-- behind so many runs so many hours are over, and those of cleaning -/
theorem end_ge {l : List Bt} (ho : Ok l) {cl : Int} (h0 : 0 ≤ cl) {list : List Rn} (h : ∀ j, j < list.length → Rg l cl list j) : ∀ j, j < list.length → cl + hs l ((list.take (j + 1)).map (·.b)) ≤ (list.getD j zr).t
  | 0, hj => by
    have h1 := h 0 hj
    rw [take_getD zr hj]
    have h2 := h1.fit.2
    rw [h1.first rfl] at h2
    have h3 := h1.f0
    simp only [List.take_zero, List.nil_append, List.map_cons, List.map_nil, hs]
    unfold hc at h2
    simp only [if_true] at h2
    omega
  | j + 1, hj => by
    have ih := end_ge ho h0 h j (by omega)
    have h1 := h (j + 1) hj
    rw [take_getD zr hj, List.map_append, hs_append]
    have h2 := h1.fit.2
    have h3 := h1.chain (Nat.succ_pos j)
    rw [Nat.add_sub_cancel] at h3
    have h4 := hc_bd (c := (list.getD (j + 1) zr).c) h0 (cl := cl)
    have h5 : 0 ≤ hc (list.getD (j + 1) zr).c cl := by unfold hc; split <;> omega
    simp only [List.map_cons, List.map_nil, hs]
    omega
/-- the greatest end -/
def IsEnd (runs : List (List Rn)) (e : Int) : Prop :=
  (runs.flatten = [] ∧ e = 0) ∨ ((∃ r, r ∈ runs.flatten ∧ r.t = e) ∧ ∀ r, r ∈ runs.flatten → r.t ≤ e)
theorem IsEnd.uniq {runs : List (List Rn)} {e e' : Int} (h : IsEnd runs e) (h' : IsEnd runs e') : e = e' := by
  rcases h with ⟨h1, h2⟩ | ⟨⟨r, h1, h2⟩, h3⟩
  · rcases h' with ⟨g1, g2⟩ | ⟨⟨r', g1, g2⟩, g3⟩
    · omega
    · rw [h1] at g1; exact absurd g1 List.not_mem_nil
  · rcases h' with ⟨g1, g2⟩ | ⟨⟨r', g1, g2⟩, g3⟩
    · rw [g1] at h1; exact absurd h1 List.not_mem_nil
    · have := h3 r' g1
      have := g3 r h1
      omega
theorem getD_memR {α : Type} {row : List α} {j : Nat} (z : α) (hj : j < row.length) : row.getD j z ∈ row := by
  rw [List.getD_eq_getElem?_getD, List.getElem?_eq_getElem hj]; exact List.getElem_mem hj
theorem mem_runs {runs : List (List Rn)} {k j : Nat} (hk : k < runs.length) (hj : j < (runs.getD k []).length) : (runs.getD k []).getD j zr ∈ runs.flatten := by
  rw [List.getD_eq_getElem?_getD (l := runs), List.getElem?_eq_getElem hk] at hj ⊢
  simp only [Option.getD_some] at hj ⊢
  rw [List.getD_eq_getElem?_getD, List.getElem?_eq_getElem hj]
  exact List.mem_flatten.2 ⟨_, List.getElem_mem hk, List.getElem_mem hj⟩
theorem of_mem_runs {runs : List (List Rn)} {r : Rn} (h : r ∈ runs.flatten) : ∃ k j, k < runs.length ∧ j < (runs.getD k []).length ∧ (runs.getD k []).getD j zr = r := by
  obtain ⟨row, h1, h2⟩ := List.mem_flatten.1 h
  obtain ⟨k, hk, rfl⟩ := List.getElem_of_mem h1
  obtain ⟨j, hj, rfl⟩ := List.getElem_of_mem h2
  refine ⟨k, j, hk, ?_, ?_⟩ <;> rw [List.getD_eq_getElem?_getD (l := runs), List.getElem?_eq_getElem hk]
  · exact hj
  · simp [List.getD_eq_getElem?_getD, List.getElem?_eq_getElem hj]
theorem hs_one {l : List Bt} (ho : Ok l) {d : List Int} (hd : ∀ x, x ∈ d → 0 ≤ x ∧ x < (l.length : Int)) {x : Int} (hx : x ∈ d) : len (at' l x.toNat) ≤ hs l d := by
  rw [hs_erase l hx]
  have := hs_nn ho (d := d.erase x) (fun y hy => hd y (List.mem_of_mem_erase hy))
  omega
/-- how many of the first k barrels are used -/
def ub (runs : List (List Rn)) : Nat → Nat
  | 0 => 0
  | k + 1 => ub runs k + if (runs.getD k []).length = 0 then 0 else 1
theorem ub_le (runs : List (List Rn)) : ∀ k, ub runs k ≤ k
  | 0 => Nat.le_refl _
  | k + 1 => by have := ub_le runs k; rw [ub]; split <;> omega
theorem ub_db {runs : List (List Rn)} : ∀ k, k ≤ runs.length → ub runs k ≤ (db runs k 0).length
  | 0, _ => Nat.zero_le _
  | k + 1, hk => by
    have ih := ub_db (runs := runs) k (by omega)
    rw [← db_next (runs := runs) (k := k) (j := (runs.getD k []).length) (by omega) (Nat.le_refl _), ub]
    have e : (db runs k (runs.getD k []).length).length = (db runs k 0).length + (runs.getD k []).length := by simp [db]
    rw [e]
    split <;> omega
theorem mul_up {u : Nat} {D S h : Int} (h1 : S ≤ u * D) (h2 : h ≤ D) : S + h ≤ ((u + 1 : Nat) : Int) * D := by
  rw [Int.natCast_add, Int.add_mul]; omega
/-- the bound -/
theorem bound_le {l : List Bt} (hv : vs l = true) {b cl : Int} (hs' : shop b cl = true) {runs : List (List Rn)} (hb : (runs.length : Int) ≤ b) (hJ : Jok l cl runs runs.length 0) (hc : cov l.length (runs.flatten.map (·.b)) = true) {e : Int} (he : IsEnd runs e) : bdV l b cl ≤ e := by
  have ho := ok_of hv
  have hS := shop_true.1 hs'
  have hR : ∀ k, k < runs.length → ∀ j, j < (runs.getD k []).length → Rg l cl (runs.getD k []) j := fun k hk j hj => Rg.of (hJ k j hk hj (.inl hk))
  obtain ⟨hN, hI⟩ := Jok.done runs.length (Nat.le_refl _) 0 (.inr rfl) (Nat.zero_le _) hJ
  rw [db_end] at hN hI
  have hC : ∀ q : Nat, q < l.length → (q : Int) ∈ runs.flatten.map (·.b) := of_decide_eq_true hc
  have hix : ∀ k, k < runs.length → ∀ x, x ∈ ((runs.getD k []).map (·.b)) → 0 ≤ x ∧ x < (l.length : Int) := fun k hk x hx => by
    obtain ⟨r, hr, rfl⟩ := List.mem_map.1 hx
    obtain ⟨j, hj, rfl⟩ := List.getElem_of_mem hr
    have := hR k hk j hj
    have e1 : (runs.getD k []).getD j zr = (runs.getD k [])[j] := by rw [List.getD_eq_getElem?_getD, List.getElem?_eq_getElem hj]; rfl
    rw [← e1]; exact ⟨this.b0, this.b1⟩
  have hle : ∀ r, r ∈ runs.flatten → r.t ≤ e := fun r hr => by
    rcases he with ⟨h1, h2⟩ | ⟨_, h3⟩
    · rw [h1] at hr; exact absurd hr List.not_mem_nil
    · exact h3 r hr
  -- a barrel that is used
  have hbar : ∀ k, k < runs.length → 0 < (runs.getD k []).length → cl + hs l ((runs.getD k []).map (·.b)) ≤ e := fun k hk h0 => by
    have h1 := end_ge ho hS.2.1 (hR k hk) ((runs.getD k []).length - 1) (by omega)
    rw [show (runs.getD k []).length - 1 + 1 = (runs.getD k []).length from by omega, List.take_length] at h1
    have := hle _ (mem_runs hk (j := (runs.getD k []).length - 1) (by omega))
    omega
  unfold bdV
  rw [if_pos (bdE_ok hv hs')]
  have hbd := (sk_bd ho l.length (Nat.le_refl _))
  by_cases hz : us l b = 0
  · rw [if_pos hz]
    rcases he with ⟨h1, h2⟩ | ⟨⟨r, h1, h2⟩, h3⟩
    · omega
    · obtain ⟨k, j, hk, hj, rfl⟩ := of_mem_runs h1
      have := hR k hk j hj
      have := this.f0
      have := (hR k hk j hj).fit.1
      omega
  rw [if_neg hz]
  have hn : 0 < l.length := by unfold us at hz; omega
  -- each batch
  have hone : ∀ q, q < l.length → cl + len (at' l q) ≤ e := fun q hq => by
    obtain ⟨r, hr, hq2⟩ := List.mem_map.1 (hC q hq)
    obtain ⟨k, j, hk, hj, rfl⟩ := of_mem_runs hr
    have h1 := hbar k hk (by omega)
    have h2 := hs_one ho (hix k hk) (x := (q : Int)) (by
      rw [← hq2]
      exact List.mem_map.2 ⟨(runs.getD k []).getD j zr, getD_memR zr hj, rfl⟩)
    rw [show (q : Int).toNat = q from rfl] at h2
    omega
  have hmk : ∀ k, k ≤ l.length → 0 < k → cl + mk l k ≤ e := by
    intro k
    induction k with
    | zero => intro _ h; omega
    | succ k ih =>
      intro h1 _
      have h2 := hone k (by omega)
      rw [mk]
      rcases Nat.eq_zero_or_pos k with rfl | h0
      · have h3 := (ho.vb 0 (by omega)).len0
        simp only [mk]; omega
      · have := ih (by omega) h0; omega
  have hm := hmk l.length (Nat.le_refl _) hn
  -- all together
  have hall : ∀ k, k ≤ runs.length → hs l (db runs k 0) ≤ ub runs k * (e - cl) := by
    intro k
    induction k with
    | zero => intro _; rw [db_zero]; simp [ub, hs]
    | succ k ih =>
      intro hk
      have h1 := ih (by omega)
      have e1 : db runs (k + 1) 0 = db runs k 0 ++ (runs.getD k []).map (·.b) := by
        rw [← db_next (by omega) (Nat.le_refl _)]; simp [db]
      rw [e1, hs_append, ub]
      by_cases h0 : (runs.getD k []).length = 0
      · rw [if_pos h0, List.length_eq_zero_iff.1 h0]; simpa [hs] using h1
      · rw [if_neg h0]
        exact mul_up h1 (by have := hbar k (by omega) (by omega); omega)
  have h1 := hall runs.length (Nat.le_refl _)
  rw [db_end] at h1
  have h2 := sk_hs ho l.length (runs.flatten.map (·.b)) (Nat.le_refl _) hN hI hC
  have h3 := ub_le runs runs.length
  have h4 := ub_db (runs := runs) runs.length (Nat.le_refl _)
  rw [db_end] at h4
  have h5 : (runs.flatten.map (·.b)).length ≤ l.length := by
    have := List.Nodup.length_le_of_subset hN (l₂ := (List.range l.length).map (fun q : Nat => (q : Int))) (fun x hx => by
      obtain ⟨p0, p1⟩ := hI x hx
      exact List.mem_map.2 ⟨x.toNat, List.mem_range.2 (by omega), by omega⟩)
    simpa using this
  have hu : (ub runs runs.length : Int) ≤ us l b := by unfold us; omega
  have hD : 0 ≤ e - cl := by omega
  generalize ub runs runs.length = u at *
  generalize sk l l.length = S at *
  obtain ⟨D, rfl⟩ : ∃ D, e = cl + D := ⟨e - cl, by omega⟩
  rw [show cl + D - cl = D from by omega] at h1 hD
  have h6 : S ≤ us l b * D := by
    have := Int.mul_le_mul_of_nonneg_right hu hD
    omega
  have h7 : cd S (us l b) ≤ D := by
    unfold cd
    have hpos : 0 < us l b := by unfold us at hz ⊢; omega
    have hlt : S + us l b - 1 < us l b * (D + 1) := by rw [Int.mul_add]; omega
    have := Int.ediv_lt_of_lt_mul hpos (by rw [Int.mul_comm]; exact hlt)
    omega
  omega
end Go.Proofs.YtlfbfdhdkccaeaaGreat.Pl

namespace Go.Proofs.YtlfbfdhdkccaeaaGreat.Pl

theorem perm_set {α : Type} (r : α) : ∀ (out : List (List α)) (k : Nat), k < out.length → (out.set k (out.getD k [] ++ [r])).flatten.Perm (out.flatten ++ [r])
  | [], k, h => absurd h (Nat.not_lt_zero _)
  | a :: out, 0, _ => by
    show ((a ++ [r]) ++ out.flatten).Perm ((a ++ out.flatten) ++ [r])
    rw [List.append_assoc, List.append_assoc]
    exact List.Perm.append_left a List.perm_append_comm
  | a :: out, k + 1, h => by
    show (a ++ (out.set k (out.getD k [] ++ [r])).flatten).Perm ((a ++ out.flatten) ++ [r])
    rw [List.append_assoc]
    exact List.Perm.append_left a (perm_set r out k (by simpa using h))
theorem getD_snoc_lt {α : Type} {L : List α} {r z : α} {j : Nat} (h : j < L.length) : (L ++ [r]).getD j z = L.getD j z := by
  rw [List.getD_eq_getElem?_getD, List.getElem?_append_left h, ← List.getD_eq_getElem?_getD]
theorem getD_snoc_eq {α : Type} {L : List α} {r z : α} : (L ++ [r]).getD L.length z = r := by
  rw [List.getD_eq_getElem?_getD, List.getElem?_append_right (Nat.le_refl _), Nat.sub_self]; rfl
theorem Rg.snoc {l : List Bt} {cl : Int} {L : List Rn} {r : Rn} {j : Nat} (hj : j < L.length) (h : Rg l cl L j) : Rg l cl (L ++ [r]) j := by
  obtain ⟨a, b, c, d, e, f, g⟩ := h
  have e1 : (L ++ [r]).getD j zr = L.getD j zr := getD_snoc_lt hj
  have e2 : (L ++ [r]).getD (j - 1) zr = L.getD (j - 1) zr := getD_snoc_lt (by omega)
  constructor <;> simp only [e1, e2] <;> assumption
/-- how often is cleaned -/
def nc (runs : List (List Rn)) : Nat := (runs.flatten.filter (·.c)).length
/-- what is so while batches are given to barrels -/
structure Iv (l : List Bt) (cl : Int) (b : Nat) (f : Nat → Int) (out : List (List Rn)) (el : List Int) (m : Nat) : Prop where
  len : out.length = b
  rg : ∀ k, k < b → ∀ j, j < (out.getD k []).length → Rg l cl (out.getD k []) j
  fz : ∀ k, k < b → (out.getD k []).length = 0 → f k = 0
  fl : ∀ k, k < b → 0 < (out.getD k []).length → f k = ((out.getD k []).getD ((out.getD k []).length - 1) zr).t
  f0 : ∀ k, 0 ≤ f k
  pm : (out.flatten.map (·.b)).Perm el
  cnt : nc out = m
theorem Iv.step {l : List Bt} (ho : Ok l) {cl : Int} (h0 : 0 ≤ cl) {b : Nat} {f : Nat → Int} {out : List (List Rn)} {el : List Int} {m : Nat} (h : Iv l cl b f out el m) {k : Nat} (hk : k < b) {i : Int} (hi : 0 ≤ i ∧ i < (l.length : Int)) {c : Bool}
    (hc : c = false → 0 < (out.getD k []).length ∧ may (at' l ((out.getD k []).getD ((out.getD k []).length - 1) zr).b.toNat) (at' l i.toNat) = true) :
    Iv l cl b (fun q => if q = k then (mkr l cl (f k) i c).t else f q) (out.set k (out.getD k [] ++ [mkr l cl (f k) i c])) (el ++ [i]) (m + if c = true then 1 else 0) := by
  have hk' : k < out.length := by rw [h.len]; exact hk
  have hget : ∀ q, (out.set k (out.getD k [] ++ [mkr l cl (f k) i c])).getD q [] = if q = k then out.getD k [] ++ [mkr l cl (f k) i c] else out.getD q [] := fun q => by
    by_cases e : q = k
    · subst e; rw [if_pos rfl, List.getD_eq_getElem?_getD, List.getElem?_set_self hk']; rfl
    · rw [if_neg e, List.getD_eq_getElem?_getD, List.getElem?_set_ne (Ne.symm e), ← List.getD_eq_getElem?_getD]
  have hperm := perm_set (mkr l cl (f k) i c) out k hk'
  have hlen := (ho.vb i.toNat (by omega)).len0
  have hhc : 0 ≤ Pl.hc c cl := by unfold Pl.hc; split <;> omega
  refine ⟨by rw [List.length_set]; exact h.len, fun q hq j hj => ?_, fun q hq h1 => ?_, fun q hq h1 => ?_, fun q => ?_, ?_, ?_⟩
  · rw [hget q] at hj ⊢
    by_cases e : q = k
    · subst e
      rw [if_pos rfl] at hj ⊢
      have hrg := h.rg q hq
      have hfz := h.fz q hq
      have hfl := h.fl q hq
      have hf0 := h.f0 q
      generalize out.getD q [] = L at *
      rw [List.length_append, List.length_singleton] at hj
      rcases Nat.lt_succ_iff_lt_or_eq.1 hj with h1 | rfl
      · exact (hrg j h1).snoc h1
      · have e1 : (L ++ [mkr l cl (f q) i c]).getD L.length zr = mkr l cl (f q) i c := getD_snoc_eq
        constructor <;> simp only [e1]
        · exact hi.1
        · exact hi.2
        · exact hf0
        · show f q ≤ f q + (Pl.hc c cl + Pl.len (at' l i.toNat)) ∧ f q + (Pl.hc c cl + Pl.len (at' l i.toNat)) - f q = Pl.hc c cl + Pl.len (at' l i.toNat)
          omega
        · intro h2
          rw [getD_snoc_lt (by omega), ← hfl h2]; exact Int.le_refl _
        · intro h2
          cases c
          · have := (hc rfl).1; omega
          · rfl
        · intro h2 h3
          rw [getD_snoc_lt (by omega)]
          exact (hc h3).2
    · rw [if_neg e] at hj ⊢
      exact h.rg q hq j hj
  · rw [hget q] at h1
    by_cases e : q = k
    · rw [if_pos e] at h1; simp at h1
    · rw [if_neg e] at h1
      show (if q = k then _ else _) = _
      rw [if_neg e]; exact h.fz q hq h1
  · rw [hget q] at h1 ⊢
    show (if q = k then _ else _) = _
    by_cases e : q = k
    · rw [if_pos e, if_pos e, List.length_append, List.length_singleton, Nat.add_sub_cancel, getD_snoc_eq]
    · rw [if_neg e] at h1
      rw [if_neg e, if_neg e]; exact h.fl q hq h1
  · show 0 ≤ (if q = k then _ else _)
    split
    · have := h.f0 k
      show 0 ≤ f k + (Pl.hc c cl + Pl.len (at' l i.toNat))
      omega
    · exact h.f0 q
  · refine (hperm.map _).trans ?_
    rw [List.map_append]
    exact h.pm.append_right _
  · unfold nc
    rw [(hperm.filter _).length_eq, List.filter_append, List.length_append]
    have : (out.flatten.filter (·.c)).length = m := h.cnt
    rw [this]
    cases c <;> simp [mkr]
/-- the rows are right -/
structure Rr (l : List Bt) (rows : List (List Int)) : Prop where
  ix : ∀ m, m < rows.length → Ix l (rows.getD m [])
  ne : ∀ m, m < rows.length → 0 < (rows.getD m []).length
  my : ∀ m, m < rows.length → ∀ j, j < (rows.getD m []).length → 0 < j → may (at' l ((rows.getD m []).getD (j - 1) 0).toNat) (at' l ((rows.getD m []).getD j 0).toNat) = true
  nd : rows.flatten.Nodup
  cv : cov l.length rows.flatten = true
theorem Rr.of {l : List Bt} {rows : List (List Int)} (h : ckE l rows = 0) : vs l = true ∧ Rr l rows := by
  obtain ⟨hv, hi⟩ := ck_zero h
  refine ⟨hv, ?_⟩
  rw [ckE_ok hv] at h
  unfold ckR at h
  split at h
  · cases h
  split at h
  · cases h
  rename_i h2
  split at h
  · cases h
  rename_i h3
  split at h
  · cases h
  rename_i h4
  refine ⟨hi, fun m hm => ?_, fun m hm j hj h0 => ?_, Classical.not_not.1 h2, ?_⟩
  · rcases Nat.eq_zero_or_pos (rows.getD m []).length with e | e
    · exact absurd (.inr (any_one (p := fun r => decide (r.length = 0)) hm (decide_eq_true e))) h4
    · exact e
  · cases e : may (at' l ((rows.getD m []).getD (j - 1) 0).toNat) (at' l ((rows.getD m []).getD j 0).toNat)
    · exact absurd (any_one hm (dty_yes hj h0 e)) h3
    · rfl
  · cases e : cov l.length rows.flatten
    · exact absurd (.inl e) h4
    · rfl
/-- the state after j of row m -/
theorem iv_row {l : List Bt} (ho : Ok l) {cl : Int} (h0 : 0 ≤ cl) {b : Nat} {rows : List (List Int)} (hr : Rr l rows) {m : Nat} (hm : m < rows.length) {s : (Nat → Int) × List (List Rn)} {k : Nat} (hk : k < b) {el : List Int} {z : Nat} (h : Iv l cl b s.1 s.2 el z) :
    ∀ j, j ≤ (rows.getD m []).length → Iv l cl b (ar l cl s k (rows.getD m []) j).1 (ar l cl s k (rows.getD m []) j).2 (el ++ (rows.getD m []).take j) (z + if j = 0 then 0 else 1) ∧
      (0 < j → 0 < ((ar l cl s k (rows.getD m []) j).2.getD k []).length ∧ (((ar l cl s k (rows.getD m []) j).2.getD k []).getD (((ar l cl s k (rows.getD m []) j).2.getD k []).length - 1) zr).b = (rows.getD m []).getD (j - 1) 0)
  | 0, _ => by
    refine ⟨?_, fun h => absurd h (Nat.lt_irrefl _)⟩
    simpa [ar] using h
  | j + 1, hj => by
    obtain ⟨i1, i2⟩ := iv_row ho h0 hr hm hk h j (by omega)
    have hi := hr.ix m hm j (by omega)
    have hmy := hr.my m hm j (by omega)
    rw [ar]
    generalize ar l cl s k (rows.getD m []) j = p at *
    obtain ⟨f, out⟩ := p
    have st := i1.step ho h0 hk hi (c := decide (j = 0)) (fun hc => by
      have hj0 : 0 < j := by have := of_decide_eq_false hc; omega
      obtain ⟨a1, a2⟩ := i2 hj0
      refine ⟨a1, ?_⟩
      rw [a2]; exact hmy hj0)
    have hk' : k < out.length := by have := i1.len; simp only at this; omega
    refine ⟨?_, fun _ => ?_⟩
    · rw [take_getD 0 (by omega), ← List.append_assoc]
      have e : (z + if j = 0 then 0 else 1) + (if decide (j = 0) = true then 1 else 0) = z + if j + 1 = 0 then 0 else 1 := by
        by_cases c : j = 0 <;> simp [c]
      rw [← e]; exact st
    · show 0 < ((out.set k _).getD k []).length ∧ _
      have e : (out.set k (out.getD k [] ++ [mkr l cl (f k) ((rows.getD m []).getD j 0) (decide (j = 0))])).getD k [] = out.getD k [] ++ [mkr l cl (f k) ((rows.getD m []).getD j 0) (decide (j = 0))] := by
        rw [List.getD_eq_getElem?_getD, List.getElem?_set_self hk']; rfl
      rw [e]
      refine ⟨by simp, ?_⟩
      rw [List.length_append, List.length_singleton, Nat.add_sub_cancel, getD_snoc_eq]; rfl
theorem iv_all {l : List Bt} (ho : Ok l) {cl : Int} (h0 : 0 ≤ cl) {b : Nat} (hb : 0 < b) {rows : List (List Int)} (hr : Rr l rows) : ∀ m, m ≤ rows.length → Iv l cl b (asg l cl b rows m).1 (asg l cl b rows m).2 (fl rows m) m
  | 0, _ => by
    rw [asg, fl_zero]
    have e : ∀ k, (List.replicate b ([] : List Rn)).getD k [] = [] := fun k => by
      rw [List.getD_eq_getElem?_getD, List.getElem?_replicate]; split <;> rfl
    have e2 : (List.replicate b ([] : List Rn)).flatten = [] := by
      rw [List.flatten_eq_nil_iff]; intro x hx; exact (List.mem_replicate.1 hx).2
    refine ⟨by simp, fun k _ j hj => ?_, fun _ _ _ => rfl, fun k _ hk => ?_, fun _ => Int.le_refl _, ?_, ?_⟩
    · simp only [e] at hj; exact absurd hj (Nat.not_lt_zero _)
    · simp only [e] at hk; exact absurd hk (Nat.not_lt_zero _)
    · simp only [e2]; exact List.Perm.refl _
    · unfold nc; simp only [e2]; rfl
  | m + 1, hm => by
    have ih := iv_all ho h0 hb hr m (by omega)
    have h := (iv_row ho h0 hr (m := m) (by omega) (fm_spec (asg l cl b rows m).1 b hb).1 ih _ (Nat.le_refl _)).1
    rw [List.take_length, if_neg (by have := hr.ne m (by omega); omega), ← fl_succ (by omega)] at h
    rw [asg]; exact h
theorem db_sub {runs : List (List Rn)} {k j : Nat} (hk : k < runs.length) : List.Sublist (db runs k j) (runs.flatten.map (·.b)) := by
  unfold db
  refine List.Sublist.map _ ?_
  have e : runs.flatten = (runs.take k).flatten ++ ((runs.getD k []) ++ (runs.drop (k + 1)).flatten) := by
    have e1 : runs.getD k [] = runs[k] := by rw [List.getD_eq_getElem?_getD, List.getElem?_eq_getElem hk]; rfl
    rw [e1, ← List.flatten_cons, ← List.drop_eq_getElem_cons hk, ← List.flatten_append, List.take_append_drop]
  rw [e]
  exact List.Sublist.append (List.Sublist.refl _) ((List.take_sublist _ _).trans (List.sublist_append_left _ _))
/-- what is given to barrels is judged right, and cleaned as often as there are rows -/
theorem made_judged {l : List Bt} {rows : List (List Int)} {b cl : Int} (hck : ckE l rows = 0) (hs' : shop b cl = true) :
    (asV l rows b cl).length = b.toNat ∧ nc (asV l rows b cl) = rows.length ∧ cwd (asV l rows b cl) = false ∧ Jok l cl (asV l rows b cl) (asV l rows b cl).length 0 ∧ cov l.length ((asV l rows b cl).flatten.map (·.b)) = true ∧ (asV l rows b cl).flatten.length ≤ l.length := by
  obtain ⟨hv, hr⟩ := Rr.of hck
  have ho := ok_of hv
  have hS := shop_true.1 hs'
  have I := iv_all ho hS.2.1 (b := b.toNat) (by omega) hr rows.length (Nat.le_refl _)
  rw [fl_all] at I
  rw [asV_ok (asE_ok hck hs')]
  generalize (asg l cl b.toNat rows rows.length).2 = out at *
  have hN : (out.flatten.map (·.b)).Nodup := I.pm.nodup_iff.2 hr.nd
  have hix : ∀ x, x ∈ out.flatten.map (·.b) → 0 ≤ x ∧ x < (l.length : Int) := fun x hx => by
    obtain ⟨r, hr', rfl⟩ := List.mem_map.1 hx
    obtain ⟨k, j, hk, hj, rfl⟩ := of_mem_runs hr'
    have := I.rg k (by rw [← I.len]; exact hk) j hj
    exact ⟨this.b0, this.b1⟩
  have hlen : out.flatten.length ≤ l.length := by
    have := List.Nodup.length_le_of_subset hN (l₂ := (List.range l.length).map (fun q : Nat => (q : Int))) (fun x hx => by
      obtain ⟨p0, p1⟩ := hix x hx
      exact List.mem_map.2 ⟨x.toNat, List.mem_range.2 (by omega), by omega⟩)
    rw [List.length_map, List.length_map, List.length_range] at this; exact this
  refine ⟨I.len, I.cnt, ?_, fun k j hk hj _ => ?_, ?_, hlen⟩
  · unfold cwd
    rw [Bool.or_eq_false_iff]
    refine ⟨decide_eq_false (by rw [I.len]; omega), ?_⟩
    rw [List.any_eq_false]
    intro r hr'
    have h1 : r.length ≤ out.flatten.length := (List.sublist_flatten_of_mem hr').length_le
    have := ho.len
    simp only [decide_eq_true_eq]
    omega
  · refine (I.rg k (by rw [← I.len]; exact hk) j hj).jr ?_
    have h1 : (db out k (j + 1)).Nodup := hN.sublist (db_sub hk)
    rw [db_succ hj] at h1
    exact (nodup_snoc.1 h1).2
  · refine decide_eq_true fun q hq => ?_
    exact I.pm.mem_iff.2 ((of_decide_eq_true hr.cv) q hq)
end Go.Proofs.YtlfbfdhdkccaeaaGreat.Pl

namespace Go.Proofs.YtlfbfdhdkccaeaaGreat.Pl

/-- the proof, in order -/
def srt (l : List Bt) : List Nat := (pf l).mergeSort (fun a b => decide (a ≤ b))
theorem srt_perm (l : List Bt) : (srt l).Perm (pf l) := List.mergeSort_perm ..
theorem srt_len {l : List Bt} (h : Ok l) : (srt l).length = nr l := by rw [(srt_perm l).length_eq, (pf_ok h).len]
theorem srt_up {l : List Bt} (h : Ok l) : (srt l).Pairwise (· < ·) := by
  have h1 := List.pairwise_mergeSort (le := fun a b : Nat => decide (a ≤ b)) (fun a b c h1 h2 => by simp at *; omega) (fun a b => by simp; omega) (pf l)
  have h2 : (srt l).Nodup := (srt_perm l).nodup_iff.2 (pf_ok h).nodup
  exact (h1.and h2).imp fun {a b} hab => by
    have := of_decide_eq_true hab.1
    have := hab.2
    omega
theorem srt_lt {l : List Bt} (h : Ok l) {x : Nat} (hx : x ∈ srt l) : x < l.length := (pf_ok h).lt x ((srt_perm l).mem_iff.1 hx)
theorem srt_ap {l : List Bt} (h : Ok l) : (srt l).Pairwise fun a b => apt (at' l a) (at' l b) = true :=
  ((srt_perm l).pairwise_iff (fun {x y} hxy => by rw [apt_symm]; exact hxy)).2 (pf_ok h).ap
/-- as numbers -/
def zI (xs : List Nat) : List Int := xs.map fun n : Nat => (n : Int)
theorem zI_len (xs : List Nat) : (zI xs).length = xs.length := List.length_map _
theorem zI_get {xs : List Nat} {i : Nat} (h : i < xs.length) : (zI xs).getD i 0 = (xs[i] : Nat) := by
  unfold zI; rw [List.getD_eq_getElem?_getD, List.getElem?_map, List.getElem?_eq_getElem h]; rfl
theorem zI_at {xs : List Nat} {i : Nat} (h : i < (zI xs).length) : (zI xs)[i] = ((xs[i]'(by rw [zI_len] at h; exact h) : Nat) : Int) := by simp [zI]
theorem bx_zI {l : List Bt} {xs : List Nat} {i : Nat} (h : i < xs.length) : bx l (zI xs) i = at' l xs[i] := by unfold bx; rw [zI_get h]; rfl
theorem zI_nodup {xs : List Nat} (h : xs.Nodup) : (zI xs).Nodup := by
  unfold zI List.Nodup
  rw [List.pairwise_map]
  exact h.imp fun {a b} hab e => hab (by omega)
theorem srt_cho {l : List Bt} (h : Ok l) : cho l.length (zI (srt l)) = true := by
  rw [cho_iff]
  refine ⟨fun x hx => ?_, zI_nodup ((srt_up h).imp fun {a b} hab e => by omega)⟩
  obtain ⟨q, hq, rfl⟩ := List.mem_map.1 hx
  have := srt_lt h hq
  omega
theorem srt_apB {l : List Bt} (h : Ok l) : apB l (zI (srt l)) = true := by
  unfold apB
  refine decide_eq_true fun i hi j hj => ?_
  rw [zI_len] at hi
  rw [bx_zI hi, bx_zI (show j < _ by omega), apt_symm]
  exact List.pairwise_iff_getElem.1 (srt_ap h) j i (by omega) hi hj
theorem srt_int (l : List Bt) : (zI (pf l)).mergeSort (fun x y => decide (x ≤ y)) = zI (srt l) := by
  symm
  unfold zI srt
  apply List.map_mergeSort
  intro a _ b _
  rw [decide_eq_decide]; omega
/-- batches that Apart passes are no more than the rows -/
theorem list_le {l : List Bt} (h : Ok l) {xs : List Int} (hc : cho l.length xs = true) (ha : apB l xs = true) : xs.length ≤ nr l := by
  have hk := of_decide_eq_true ha
  have := ap_nr h (bs := (List.range xs.length).map (bx l xs)) (fun b hb => by
    obtain ⟨i, hi, rfl⟩ := List.mem_map.1 hb
    rw [List.mem_range] at hi
    obtain ⟨q, h1, h2⟩ := idx_lt hc hi
    rw [bx_eq hi h1]
    exact at_mem h2) (by
    unfold Ap
    rw [List.pairwise_map]
    refine List.Pairwise.imp_of_mem (fun {a b} hA hB hab => ?_) List.pairwise_lt_range
    rw [apt_symm]
    exact hk b (List.mem_range.1 hB) a hab)
  simpa using this
theorem ck_zero0 {l : List Bt} {rows : List (List Int)} (h : ckR l rows = 0) : rows.any (nix l.length) = false ∧ rows.flatten.Nodup ∧ rows.any (dty l) = false ∧ cov l.length rows.flatten = true ∧ emp rows = false := by
  unfold ckR at h
  cases h1 : rows.any (nix l.length)
  · rw [h1] at h
    by_cases h2 : rows.flatten.Nodup
    · rw [if_neg (by simp), if_neg (fun h' => h' h2)] at h
      cases h3 : rows.any (dty l)
      · rw [h3, if_neg (by simp)] at h
        cases h4 : cov l.length rows.flatten
        · rw [h4, if_pos (.inl rfl)] at h; cases h
        · cases h5 : emp rows
          · exact ⟨rfl, h2, rfl, rfl, rfl⟩
          · rw [h5, if_pos (.inr rfl)] at h; cases h
      · rw [h3, if_pos rfl] at h; cases h
    · rw [if_neg (by simp), if_pos h2] at h; cases h
  · rw [h1, if_pos rfl] at h; cases h
theorem dty_pair {l : List Bt} {row : List Int} (h : dty l row = false) : ∀ q p, p ≤ q → q < row.length → may (bx l row p) (bx l row q) = true := by
  have hd : ∀ k, k < row.length → 0 < k → may (bx l row (k - 1)) (bx l row k) = true := by
    unfold dty at h
    rw [Bool.not_eq_false'] at h
    exact of_decide_eq_true h
  intro q
  induction q with
  | zero => intro p hp _; obtain rfl : p = 0 := by omega
            exact may_refl _
  | succ q ih =>
    intro p hp hq
    rcases Nat.lt_succ_iff_lt_or_eq.1 (Nat.lt_succ_of_le hp) with h1 | rfl
    · exact may_trans (ih p (by omega) (by omega)) (hd (q + 1) hq (by omega))
    · exact may_refl _
/-- rows that Check passes are no fewer -/
theorem rows_le {l : List Bt} (h : Ok l) {rows : List (List Int)} (hc : ckR l rows = 0) : nr l ≤ rows.length := by
  obtain ⟨h1, _, h3, h4, _⟩ := ck_zero0 hc
  have hp := (pf_ok h).batches
  rw [← hp.2.2]
  have hg : ∀ j, (rows.map (·.map Int.toNat)).getD j [] = (rows.getD j []).map Int.toNat := fun j => by
    rw [List.getD_eq_getElem?_getD, List.getD_eq_getElem?_getD, List.getElem?_map]
    cases rows[j]? <;> rfl
  have := ap_le (l := l) (rows := rows.map (·.map Int.toNat)) (fun i hi => by
    have h5 := of_decide_eq_true h4 i hi
    obtain ⟨r, hr, hir⟩ := List.mem_flatten.1 h5
    obtain ⟨j, hj, rfl⟩ := List.getElem_of_mem hr
    refine ⟨j, by simpa using hj, ?_⟩
    rw [hg, List.getD_eq_getElem?_getD, List.getElem?_eq_getElem hj]
    exact List.mem_map.2 ⟨_, hir, rfl⟩) (fun j i i' hi hi' => by
    rw [hg] at hi hi'
    obtain ⟨x, hx, rfl⟩ := List.mem_map.1 hi
    obtain ⟨y, hy, rfl⟩ := List.mem_map.1 hi'
    obtain ⟨p, hp, rfl⟩ := List.getElem_of_mem hx
    obtain ⟨q, hq, rfl⟩ := List.getElem_of_mem hy
    have hd : dty l (rows.getD j []) = false := by
      rcases Nat.lt_or_ge j rows.length with hj | hj
      · have := List.any_eq_false.1 h3 (rows.getD j []) (by rw [List.getD_eq_getElem?_getD, List.getElem?_eq_getElem hj]; exact List.getElem_mem hj)
        simpa using this
      · rw [List.getD_eq_getElem?_getD, List.getElem?_eq_none hj] at hp
        exact absurd hp (Nat.not_lt_zero _)
    have e1 : ∀ (p : Nat) (hp : p < (rows.getD j []).length), bx l (rows.getD j []) p = at' l ((rows.getD j [])[p]).toNat := fun p hp => by
      unfold bx; rw [List.getD_eq_getElem?_getD (l := rows.getD j []), List.getElem?_eq_getElem hp]; rfl
    rw [← e1 p hp, ← e1 q hq]
    rcases Nat.le_total p q with h | h
    · exact .inl (dty_pair hd q p h hq)
    · exact .inr (dty_pair hd p q h hp)) hp.1 hp.2.1
  simpa using this
/-- the rows that are made, as numbers -/
def rI (l : List Bt) : List (List Int) := (Rs l).map zI
theorem getD_zI (rows : List (List Nat)) (j : Nat) : (rows.map zI).getD j [] = zI (rows.getD j []) := by
  rw [List.getD_eq_getElem?_getD, List.getD_eq_getElem?_getD, List.getElem?_map]
  cases rows[j]? <;> rfl
theorem flat_zI : ∀ rows : List (List Nat), (rows.map zI).flatten = zI rows.flatten
  | [] => rfl
  | r :: rs => by rw [List.map_cons, List.flatten_cons, List.flatten_cons, flat_zI rs]; unfold zI; rw [List.map_append]
/-- the rows that are made pass Check -/
theorem ck_made {l : List Bt} (hv : vs l = true) : ckE l (rI l) = 0 := by
  have h := ok_of hv
  have G := gd h
  rw [ckE_ok hv]
  have e : rI l = (R l).map zI := by unfold rI; rw [Rs_ok hv]
  rw [e]
  have h1 : ((R l).map zI).any (nix l.length) = false := any_all fun i hi => by
    rw [getD_zI]
    refine nix_all fun k hk => ?_
    have hk' : k < ((R l).getD i []).length := by rw [zI_len] at hk; exact hk
    have := row_idx h (List.getElem_mem hk')
    refine decide_eq_true ?_
    rw [zI_at hk]
    omega
  have h2 : ((R l).map zI).flatten.Nodup := by
    rw [flat_zI]
    refine zI_nodup ?_
    rw [List.Nodup, List.pairwise_flatten]
    constructor
    · intro r hr
      obtain ⟨j, hj, rfl⟩ := List.getElem_of_mem hr
      have := G.nd j
      change ((R l).getD j []).Nodup at this
      rw [List.getD_eq_getElem?_getD, List.getElem?_eq_getElem hj] at this
      exact this
    · rw [List.pairwise_iff_getElem]
      intro i j hi hj hij x hx y hy exy
      subst exy
      have e1 : x ∈ row l l.length i := by show x ∈ (R l).getD i []; rw [List.getD_eq_getElem?_getD, List.getElem?_eq_getElem hi]; exact hx
      have e2 : x ∈ row l l.length j := by show x ∈ (R l).getD j []; rw [List.getD_eq_getElem?_getD, List.getElem?_eq_getElem hj]; exact hy
      have := G.one x i j e1 e2
      omega
  have h3 : ((R l).map zI).any (dty l) = false := any_all fun i hi => by
    rw [getD_zI]
    refine dty_no fun k hk h0 => ?_
    rw [zI_len] at hk
    rw [bx_zI hk, bx_zI (show k - 1 < _ by omega)]
    exact List.pairwise_iff_getElem.1 (G.chain i) (k - 1) k (by show k - 1 < ((R l).getD i []).length; omega) hk (by omega)
  have h4 : cov l.length ((R l).map zI).flatten = true := decide_eq_true fun q hq => by
    rw [flat_zI]
    obtain ⟨j, hj, hm⟩ := every h hq
    refine List.mem_map.2 ⟨q, List.mem_flatten.2 ⟨(R l).getD j [], ?_, hm⟩, rfl⟩
    rw [List.getD_eq_getElem?_getD, List.getElem?_eq_getElem hj]
    exact List.getElem_mem hj
  have h5 : emp ((R l).map zI) = false := any_all (p := fun r => decide (r.length = 0)) fun i hi => by
    rw [List.length_map] at hi
    rw [getD_zI, zI_len]
    exact decide_eq_false fun e => G.ne i hi (List.eq_nil_of_length_eq_zero e)
  unfold ckR
  rw [if_neg (by rw [h1]; simp), if_neg (fun h' => h' h2), if_neg (by rw [h3]; simp), if_neg (by rw [h4, h5]; simp)]
end Go.Proofs.YtlfbfdhdkccaeaaGreat.Pl

