/- Plain: the price that is found, and what Price and Cheapest answer. -/
import Derived.Test.YtdihnbjmeppbcaaDoorP4
namespace Go.Proofs.YtdihnbjmeppbcaaDoor.Pl

/-- what is wrong when nothing was found -/
def soE : Option Nat → Int
  | none => 82
  | some _ => 0
/-- the price that Price and Cheapest look at -/
def prF (l : List Pr) (m : ByteArray) (d n : Int) : Pr := if vps l = true then (if (dy d && inB 1 n 100000) = true then fnd l (lt (l.map pk) m d l.length) else default) else default
def prG (l : List Pr) (m : ByteArray) (d n : Int) : Int := if vps l = true then (if (dy d && inB 1 n 100000) = true then soE (lt (l.map pk) m d l.length) else 2) else 80
/-- Price -/
def prU (l : List Pr) (m : ByteArray) (d n : Int) : Int := cen (prF l m d n).st n (prF l m d n).st.length
/-- Cheapest -/
def chN (l : List Pr) (m : ByteArray) (d n : Int) : Int := if prG l m d n = 0 then (chp (prF l m d n).st n (prF l m d n).st.length).1 else 0
def chS (l : List Pr) (m : ByteArray) (d n : Int) : Int := if prG l m d n = 0 then (chp (prF l m d n).st n (prF l m d n).st.length).2 else 0
theorem fnd_mem {α : Type} [Inhabited α] {l : List α} {ks : List Ky} {n : ByteArray} {d : Int} : fnd l (lt ks n d l.length) = default ∨ fnd l (lt ks n d l.length) ∈ l := by
  cases e : lt ks n d l.length with
  | none => exact .inl rfl
  | some j =>
    have hj := lt_lt e
    refine .inr ?_
    rw [fnd_some hj]
    exact List.getElem_mem hj
theorem prF_mem (l : List Pr) (m : ByteArray) (d n : Int) : prF l m d n = default ∨ prF l m d n ∈ l := by
  unfold prF
  split
  · split
    · exact fnd_mem
    · exact .inl rfl
  · exact .inl rfl
theorem prG_ok {l : List Pr} {m : ByteArray} {d n : Int} (h : prG l m d n = 0) : vps l = true ∧ 1 ≤ n ∧ n ≤ 100000 ∧ prF l m d n ∈ l ∧ ∃ j, lt (l.map pk) m d l.length = some j := by
  unfold prG at h
  unfold prF
  split at h
  · rename_i h1
    split at h
    · rename_i h2
      rw [if_pos h1, if_pos h2]
      rw [Bool.and_eq_true, inB_true] at h2
      cases e : lt (l.map pk) m d l.length with
      | none => rw [e] at h; cases h
      | some j =>
        have hj := lt_lt e
        refine ⟨h1, h2.2.1, h2.2.2, ?_, j, rfl⟩
        rw [fnd_some hj]
        exact List.getElem_mem hj
    · omega
  · omega
theorem prF_no {l : List Pr} {m : ByteArray} {d n : Int} (h : prG l m d n ≠ 0) : prF l m d n = default := by
  unfold prG at h
  unfold prF
  split
  · rename_i h1
    rw [if_pos h1] at h
    split
    · rename_i h2
      rw [if_pos h2] at h
      cases e : lt (l.map pk) m d l.length with
      | none => rfl
      | some j => rw [e] at h; exact absurd rfl h
    · rfl
  · rfl
theorem prU_no {l : List Pr} {m : ByteArray} {d n : Int} (h : prG l m d n ≠ 0) : prU l m d n = 0 := by
  unfold prU; rw [prF_no h]; rfl
theorem prF_st {l : List Pr} {m : ByteArray} {d n : Int} (h : prG l m d n = 0) : Vst (prF l m d n).st := by
  obtain ⟨h1, _, _, h4, _⟩ := prG_ok h
  rw [vps_eq, vls_true] at h1
  obtain ⟨i, hi, e⟩ := List.getElem_of_mem h4
  have := h1.2.1 i hi
  rw [e] at this
  exact vst_true.1 (vp_true.1 this).st
theorem chp_step {l : List Stp} {n : Int} {k : Nat} (hk : k < l.length) : chp l n (k + 1) = if n < l[k].c ∧ l[k].c * l[k].m < (chp l n k).2 then (l[k].c, l[k].c * l[k].m) else chp l n k := by
  rw [chp, List.getD_eq_getElem?_getD, List.getElem?_eq_getElem hk]; rfl
theorem cen_step {l : List Stp} {n : Int} {k : Nat} (hk : k < l.length) : cen l n (k + 1) = if l[k].c ≤ n then l[k].m else cen l n k := by
  rw [cen, List.getD_eq_getElem?_getD, List.getElem?_eq_getElem hk]; rfl
theorem sok_in {l : List Stp} (h : Vst l) : ∀ (k : Nat) (hk : k < l.length), 1 ≤ l[k].c ∧ l[k].c ≤ 100000 ∧ 0 ≤ l[k].m ∧ l[k].m ≤ 10000000
  | 0, hk => by
    have h1 := h.ok 0 hk
    unfold sok at h1
    rw [Bool.and_eq_true, inB_true, inB_true, List.getD_eq_getElem?_getD, List.getElem?_eq_getElem hk] at h1
    simp only [sb, Option.getD_some] at h1
    omega
  | k + 1, hk => by
    have h0 := sok_in h k (by omega)
    have h1 := h.ok (k + 1) hk
    unfold sok at h1
    rw [Bool.and_eq_true, inB_true, inB_true, List.getD_eq_getElem?_getD, List.getElem?_eq_getElem hk] at h1
    simp only [sb, Option.getD_some, List.getD_eq_getElem?_getD, List.getElem?_eq_getElem (show k < l.length by omega)] at h1
    omega
theorem prod_in {a b : Int} (h1 : 1 ≤ a ∧ a ≤ 100000 ∧ 0 ≤ b ∧ b ≤ 10000000) : 0 ≤ a * b ∧ a * b ≤ 1000000000000 := by
  have h2 := mul_le (A := 100000) (B := 10000000) (show -100000 ≤ a by omega) h1.2.1 h1.2.2.1 h1.2.2.2 (by decide)
  have h3 : 0 ≤ a * b := Int.mul_nonneg (by omega) h1.2.2.1
  omega
end Go.Proofs.YtdihnbjmeppbcaaDoor.Pl
