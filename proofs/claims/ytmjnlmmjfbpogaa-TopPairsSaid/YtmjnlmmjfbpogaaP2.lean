/- Plain: the order of the temples by length, then number; which temples are on a side and have a colour; the pairs of a colour, of all colours. -/
import Derived.Test.YtmjnlmmjfbpogaaP1
namespace Go.Proofs.Ytmjnlmmjfbpogaa.Pl

def cmpI (a b : Int) : Int := if a < b then -1 else if b < a then 1 else 0
theorem cmpI_lt {a b : Int} (h : a < b) : cmpI a b = -1 := if_pos h
theorem cmpI_gt {a b : Int} (h : b < a) : cmpI a b = 1 := by unfold cmpI; rw [if_neg (by omega), if_pos h]
theorem cmpI_eq {a b : Int} (h : a = b) : cmpI a b = 0 := by unfold cmpI; rw [if_neg (by omega), if_neg (by omega)]
def orI (a b : Int) : Int := if a = 0 then b else a
/-- what byLength compares -/
def fbI (s t : Tm) : Int := orI (cmpI s.len t.len) (cmpI s.num t.num)
/-- s goes ahead of t -/
def Low (s t : Tm) : Prop := s.len < t.len ∨ s.len = t.len ∧ s.num < t.num
instance (s t : Tm) : Decidable (Low s t) := inferInstanceAs (Decidable (_ ∨ _))
theorem fbI_low (p q : Tm) : fbI p q < 0 ↔ Low p q := by
  unfold fbI orI cmpI Low
  rcases Int.lt_trichotomy p.len q.len with h | h | h <;> rcases Int.lt_trichotomy p.num q.num with h' | h' | h' <;> simp [*] <;> omega
theorem low_irrefl (a : Tm) : ¬ Low a a := by unfold Low; omega
theorem low_trans {a b c : Tm} (h1 : Low a b) (h2 : Low b c) : Low a c := by unfold Low at *; omega
theorem low_total (a b : Tm) (h : a.num ≠ b.num) : Low a b ∨ Low b a := by unfold Low; omega

/-- the temple with an index; for indexes that are none, temples of numbers of their own -/
def at' (l : List Tm) (i : Nat) : Tm := if h : i < l.length then l[i] else ⟨2000000000 + i, 0, 0, 0⟩
theorem at_lt {l : List Tm} {i : Nat} (h : i < l.length) : at' l i = l[i] := dif_pos h
theorem at_getD {l : List Tm} {i : Nat} (h : i < l.length) : l.getD i zt = at' l i := by
  rw [at_lt h, List.getD_eq_getElem?_getD, List.getElem?_eq_getElem h]; rfl
/-- a valid list -/
structure Ok (l : List Tm) : Prop where
  len : l.length ≤ 60
  vt : ∀ i, i < l.length → Vt (at' l i)
  num : ∀ i j, (at' l i).num = (at' l j).num → i = j
theorem ok_of {l : List Tm} (h : vs l = true) : Ok l := by
  obtain ⟨h1, h2, h3⟩ := vs_iff.1 h
  have hv : ∀ i, i < l.length → Vt (at' l i) := fun i hi => by rw [at_lt hi]; exact h2 _ (List.getElem_mem _)
  refine ⟨h1, hv, fun i j e => ?_⟩
  by_cases hi : i < l.length
  · have v1 := (hv i hi).n2
    by_cases hj : j < l.length
    · rw [at_lt hi, at_lt hj] at e
      have hp := List.pairwise_iff_getElem.1 h3
      rcases Nat.lt_trichotomy i j with h | h | h
      · exact absurd e (hp i j hi hj h)
      · exact h
      · exact absurd e.symm (hp j i hj hi h)
    · have e2 : at' l j = ⟨2000000000 + j, 0, 0, 0⟩ := dif_neg hj
      rw [e2] at e
      simp at e
      omega
  · have e1 : at' l i = ⟨2000000000 + i, 0, 0, 0⟩ := dif_neg hi
    by_cases hj : j < l.length
    · have v2 := (hv j hj).n2
      rw [e1] at e
      simp at e
      omega
    · have e2 : at' l j = ⟨2000000000 + j, 0, 0, 0⟩ := dif_neg hj
      rw [e1, e2] at e
      simp at e
      omega
theorem ck_ok {l : List Tm} {tol : Int} (h : ck l tol = 0) : vs l = true ∧ 0 ≤ tol ∧ tol ≤ 1000 := by
  unfold ck at h
  split at h
  · rename_i h1
    split at h
    · rename_i h2
      exact ⟨h1, inB_true.1 h2⟩
    · cases h
  · cases h

/-- the indexes in the order of byLength -/
def ord (l : List Tm) : List Nat := (List.range l.length).mergeSort fun i j => !decide (Low (at' l j) (at' l i))
theorem ord_perm (l : List Tm) : (ord l).Perm (List.range l.length) := List.mergeSort_perm ..
theorem ord_len (l : List Tm) : (ord l).length = l.length := by rw [(ord_perm l).length_eq, List.length_range]
theorem ord_mem {l : List Tm} {i : Nat} : i ∈ ord l ↔ i < l.length := by rw [(ord_perm l).mem_iff, List.mem_range]
theorem ord_nodup (l : List Tm) : (ord l).Nodup := (ord_perm l).nodup_iff.2 List.nodup_range
theorem ord_rise {l : List Tm} (h : Ok l) : (ord l).Pairwise fun i j => Low (at' l i) (at' l j) := by
  have h1 := List.pairwise_mergeSort (le := fun i j => !decide (Low (at' l j) (at' l i))) (fun a b c h1 h2 => by
    simp only [Bool.not_eq_true', decide_eq_false_iff_not] at *
    unfold Low at *; omega) (fun a b => by
    by_cases e : Low (at' l b) (at' l a)
    · have : ¬ Low (at' l a) (at' l b) := by unfold Low at *; omega
      simp [this]
    · simp [e]) (List.range l.length)
  have h2 : (ord l).Pairwise (fun i j => i ≠ j) := ord_nodup l
  refine (h1.and h2).imp fun {i j} hij => ?_
  obtain ⟨h3, h4⟩ := hij
  simp only [Bool.not_eq_true', decide_eq_false_iff_not] at h3
  rcases low_total (at' l i) (at' l j) (fun e => h4 (h.num _ _ e)) with e | e
  · exact e
  · exact absurd e h3

/-- the indexes of a side and a colour, in the order of byLength -/
def grp (l : List Tm) (side c : Int) : List Nat := (ord l).filter fun i => decide ((at' l i).side = side) && decide ((at' l i).col = c)
theorem grp_mem {l : List Tm} {side c : Int} {i : Nat} : i ∈ grp l side c ↔ i < l.length ∧ (at' l i).side = side ∧ (at' l i).col = c := by
  unfold grp
  rw [List.mem_filter, ord_mem, Bool.and_eq_true, decide_eq_true_iff, decide_eq_true_iff]
theorem grp_len {l : List Tm} {side c : Int} : (grp l side c).length ≤ l.length := by
  rw [← ord_len l]; exact List.length_filter_le ..

/-- the pairs of one colour -/
def mc (l : List Tm) (tol : Int) : List Nat → List Nat → List (Nat × Nat)
  | [], _ => []
  | _ :: _, [] => []
  | i :: p, j :: q =>
    if can (at' l i) (at' l j) tol = true then (i, j) :: mc l tol p q
    else if (at' l i).len < (at' l j).len then mc l tol p (j :: q)
    else mc l tol (i :: p) q
termination_by p q => p.length + q.length
theorem mc_len {l : List Tm} {tol : Int} : ∀ {p q : List Nat}, (mc l tol p q).length ≤ p.length
  | [], _ => by rw [mc]; exact Nat.le_refl _
  | _ :: _, [] => by rw [mc]; exact Nat.zero_le _
  | i :: p, j :: q => by
    rw [mc]
    split
    · have := mc_len (l := l) (tol := tol) (p := p) (q := q)
      simp only [List.length_cons]; omega
    · split
      · have := mc_len (l := l) (tol := tol) (p := p) (q := j :: q)
        simp only [List.length_cons]; omega
      · exact mc_len (l := l) (tol := tol) (p := i :: p) (q := q)
termination_by p q => p.length + q.length
/-- the pairs of the colours from 1 to n -/
def mtn (l : List Tm) (tol : Int) : Nat → List (Nat × Nat)
  | 0 => []
  | n + 1 => mtn l tol n ++ mc l tol (grp l 1 (n + 1)) (grp l 2 (n + 1))
/-- Match -/
def mt (l : List Tm) (tol : Int) : List (Nat × Nat) := mtn l tol 9
/-- what Match returns: nothing where there is an error -/
def Mt (l : List Tm) (tol : Int) : List (Nat × Nat) := if ck l tol = 0 then mt l tol else []

/-- the list of the sanity check -/
def sl : List Tm := [⟨1, 1, 104, 1⟩, ⟨2, 2, 103, 1⟩]
theorem sl_c2 : ck sl 2 = 0 := by decide
theorem sl_c0 : ck sl 0 = 0 := by decide
theorem sl_ord : ord sl = [1, 0] := by
  have h1 := ord_perm sl
  have h2 := ord_rise (l := sl) (ok_of (by decide))
  have h3 : (ord sl).length = 2 := ord_len sl
  match ho : ord sl, h3 with
  | [a, b], _ =>
    rw [ho] at h1 h2
    have ha : a < 2 := List.mem_range.1 (h1.mem_iff.1 (by simp))
    have hb : b < 2 := List.mem_range.1 (h1.mem_iff.1 (by simp))
    have hab := (List.pairwise_cons.1 h2).1 b (by simp)
    match a, b, ha, hb with
    | 0, 0, _, _ => exact absurd hab (low_irrefl _)
    | 1, 1, _, _ => exact absurd hab (low_irrefl _)
    | 0, 1, _, _ => exact absurd hab (by decide)
    | 1, 0, _, _ => rfl
theorem sl_far (s : Int) (c : Int) (h : c ≠ 1) : grp sl s c = [] := by
  rw [List.eq_nil_iff_forall_not_mem]
  intro i hi
  obtain ⟨h1, _, h3⟩ := grp_mem.1 hi
  match i, h1 with
  | 0, _ => exact h (h3.symm.trans rfl)
  | 1, _ => exact h (h3.symm.trans rfl)
theorem sl_l : grp sl 1 1 = [0] := by unfold grp; rw [sl_ord]; decide
theorem sl_r : grp sl 2 1 = [1] := by unfold grp; rw [sl_ord]; decide
theorem sl_mtn (tol : Int) : ∀ n, mtn sl tol (n + 1) = mc sl tol [0] [1]
  | 0 => by
    unfold mtn
    rw [show ((0 : Nat) : Int) + 1 = 1 from rfl, sl_l, sl_r]; rfl
  | n + 1 => by
    rw [mtn, sl_mtn tol n, sl_far 1 _ (by omega), mc, List.append_nil]
theorem sl_m2 : Mt sl 2 = [(0, 1)] := by
  unfold Mt mt
  rw [sl_c2, if_pos rfl, sl_mtn, mc, if_pos (by decide), mc]
theorem sl_m0 : Mt sl 0 = [] := by
  unfold Mt mt
  rw [sl_c0, if_pos rfl, sl_mtn, mc, if_neg (by decide), if_neg (by decide), mc]
end Go.Proofs.Ytmjnlmmjfbpogaa.Pl
