/- Plain: Credit. -/
import Derived.Test.YtdihnbjmeppbcaaDoorP1
namespace Go.Proofs.YtdihnbjmeppbcaaDoor.Pl

/-- the amounts are amounts -/
def crA (a : List Int) : Bool := a.all am
/-- no line is named twice -/
def crD (l : List Int) : Bool := decide (l.map id).Nodup
/-- the k-th is a line of the invoice -/
def crI (a l : List Int) (k : Nat) : Prop := 0 ≤ el l k ∧ el l k < (a.length : Int)
def crOk (a l : List Int) : Bool := crA a && (crD l && l.all (fun i => decide (0 ≤ i ∧ i < (a.length : Int))))
def crE (a l : List Int) : Int := if 40 < a.length ∨ 40 < l.length then 4 else if crOk a l = true then 0 else 2
/-- what is given back for the k-th -/
def crv (a l : List Int) (k : Nat) : Int := -(el a (el l k).toNat)
def crV (a l : List Int) : List Int := if crE a l = 0 then tab (crv a l) l.length else []
def crS (a l : List Int) : Int := if crE a l = 0 then sm (crv a l) l.length else 0
theorem crI_all {a l : List Int} : l.all (fun i => decide (0 ≤ i ∧ i < (a.length : Int))) = true ↔ ∀ k, k < l.length → crI a l k := by
  rw [List.all_eq_true]
  constructor
  · intro h k hk
    have := h _ (List.getElem_mem hk)
    unfold crI
    rw [el_get hk]
    exact of_decide_eq_true this
  · intro h x hx
    obtain ⟨k, hk, rfl⟩ := List.getElem_of_mem hx
    have := h k hk
    unfold crI at this
    rw [el_get hk] at this
    exact decide_eq_true this
theorem crE_big {a l : List Int} (h : 40 < a.length ∨ 40 < l.length) : crE a l = 4 := by unfold crE; rw [if_pos h]
theorem crE_no {a l : List Int} (h1 : a.length ≤ 40) (h2 : l.length ≤ 40) (h : crOk a l = false) : crE a l = 2 := by
  unfold crE
  rw [if_neg (by omega), h]; rfl
theorem crE_A {a l : List Int} (h1 : a.length ≤ 40) (h2 : l.length ≤ 40) (h : crA a = false) : crE a l = 2 := crE_no h1 h2 (by unfold crOk; rw [h]; rfl)
theorem crE_D {a l : List Int} (h1 : a.length ≤ 40) (h2 : l.length ≤ 40) (h : crD l = false) : crE a l = 2 := crE_no h1 h2 (by unfold crOk; rw [h, Bool.false_and, Bool.and_false])
theorem crE_I {a l : List Int} (h1 : a.length ≤ 40) (h2 : l.length ≤ 40) {k : Nat} (hk : k < l.length) (h : ¬ crI a l k) : crE a l = 2 := crE_no h1 h2 (by
  have e : l.all (fun i => decide (0 ≤ i ∧ i < (a.length : Int))) = false := by
    rw [← Bool.not_eq_true]
    exact fun hh => h (crI_all.1 hh k hk)
  unfold crOk
  rw [e, Bool.and_false, Bool.and_false])
theorem crE_ok {a l : List Int} (h1 : a.length ≤ 40) (h2 : l.length ≤ 40) (hA : crA a = true) (hD : crD l = true) (hI : ∀ k, k < l.length → crI a l k) : crE a l = 0 := by
  unfold crE
  rw [if_neg (by omega), if_pos]
  unfold crOk
  rw [hA, hD, crI_all.2 hI]
  rfl
theorem crV_no {a l : List Int} (h : crE a l ≠ 0) : crV a l = [] := if_neg h
theorem crS_no {a l : List Int} (h : crE a l ≠ 0) : crS a l = 0 := if_neg h
theorem crV_yes {a l : List Int} (h : crE a l = 0) : crV a l = tab (crv a l) l.length := if_pos h
theorem crS_yes {a l : List Int} (h : crE a l = 0) : crS a l = sm (crv a l) l.length := if_pos h
theorem crA_get {a : List Int} (h : crA a = true) {k : Nat} (hk : k < a.length) : -1099511627776 ≤ el a k ∧ el a k ≤ 1099511627776 := by
  rw [el_get hk]
  exact inB_true.1 (List.all_eq_true.1 h _ (List.getElem_mem hk))
theorem crv_in {a l : List Int} (h : crA a = true) {k : Nat} (hI : crI a l k) : -1099511627776 ≤ crv a l k ∧ crv a l k ≤ 1099511627776 := by
  unfold crI at hI
  have := crA_get h (k := (el l k).toNat) (by omega)
  unfold crv
  omega
theorem crv_sum {a l : List Int} (h : crA a = true) {k : Nat} (hk : k ≤ 40) (hI : ∀ i, i < k → crI a l i) : -50000000000000 ≤ sm (crv a l) k ∧ sm (crv a l) k ≤ 50000000000000 := by
  have h1 := sm_bound (f := crv a l) (n := k) (lo := -1099511627776) (hi := 1099511627776) (fun i hi => crv_in h (hI i hi))
  omega
end Go.Proofs.YtdihnbjmeppbcaaDoor.Pl
