/- Plain: notes of two parts, and of all lines. -/
import Derived.Test.YtdihnbjmeppbcaaDoorP9
namespace Go.Proofs.YtdihnbjmeppbcaaDoor.Pl

theorem cr_of {a l : List Int} (h : crE a l = 0) : a.length ≤ 40 ∧ l.length ≤ 40 ∧ crA a = true ∧ crD l = true ∧ ∀ k, k < l.length → crI a l k := by
  unfold crE at h
  split at h
  · cases h
  · rename_i h1
    split at h
    · rename_i h2
      unfold crOk at h2
      rw [Bool.and_eq_true, Bool.and_eq_true] at h2
      exact ⟨by omega, by omega, h2.1, h2.2.1, crI_all.1 h2.2.2⟩
    · cases h
theorem el_take {l : List Int} {q k : Nat} (h : k < q) : el (l.take q) k = el l k := by
  unfold el
  rw [List.getD_eq_getElem?_getD, List.getD_eq_getElem?_getD, List.getElem?_take, if_pos h]
theorem el_drop {l : List Int} {q k : Nat} : el (l.drop q) k = el l (q + k) := by
  unfold el
  rw [List.getD_eq_getElem?_getD, List.getD_eq_getElem?_getD, List.getElem?_drop]
theorem cr_take {a l : List Int} (h : crE a l = 0) {q : Nat} (hq : q ≤ l.length) : crE a (l.take q) = 0 ∧ crS a (l.take q) = sm (crv a l) q := by
  obtain ⟨h1, h2, h3, h4, h5⟩ := cr_of h
  have hl : (l.take q).length = q := by rw [List.length_take]; omega
  have e0 : crE a (l.take q) = 0 := by
    refine crE_ok h1 (by omega) h3 (crD_iff.2 fun i k hik hk => ?_) (fun k hk => ?_)
    · rw [hl] at hk
      rw [el_take (by omega), el_take hk]
      exact crD_iff.1 h4 i k hik (by omega)
    · rw [hl] at hk
      have := h5 k (by omega)
      unfold crI at this ⊢
      rw [el_take hk]
      exact this
  refine ⟨e0, ?_⟩
  rw [crS_yes e0, hl]
  refine sm_ext (fun i hi => ?_)
  unfold crv
  rw [el_take hi]
theorem sm_parts {f : Nat → Int} {q : Nat} : ∀ r, sm f (q + r) = sm f q + sm (fun i => f (q + i)) r
  | 0 => by simp [sm]
  | r + 1 => by
    have ih := sm_parts (f := f) (q := q) r
    have e1 : sm f (q + (r + 1)) = sm f (q + r) + f (q + r) := rfl
    have e2 : sm (fun i => f (q + i)) (r + 1) = sm (fun i => f (q + i)) r + f (q + r) := rfl
    omega
theorem cr_drop {a l : List Int} (h : crE a l = 0) {q : Nat} (hq : q ≤ l.length) : crE a (l.drop q) = 0 ∧ sm (crv a l) q + crS a (l.drop q) = crS a l := by
  obtain ⟨h1, h2, h3, h4, h5⟩ := cr_of h
  have hl : (l.drop q).length = l.length - q := by rw [List.length_drop]
  have e0 : crE a (l.drop q) = 0 := by
    refine crE_ok h1 (by omega) h3 (crD_iff.2 fun i k hik hk => ?_) (fun k hk => ?_)
    · rw [hl] at hk
      rw [el_drop, el_drop]
      exact crD_iff.1 h4 (q + i) (q + k) (by omega) (by omega)
    · rw [hl] at hk
      have := h5 (q + k) (by omega)
      unfold crI at this ⊢
      rw [el_drop]
      exact this
  refine ⟨e0, ?_⟩
  rw [crS_yes e0, crS_yes h, hl]
  have e1 : sm (crv a (l.drop q)) (l.length - q) = sm (fun i => crv a l (q + i)) (l.length - q) := sm_ext (fun i hi => by unfold crv; rw [el_drop])
  rw [e1, ← sm_parts]
  congr 1
  omega
/-- all lines -/
def every (m : Nat) : List Int := tab (fun i => (i : Int)) m
theorem every_len (m : Nat) : (every m).length = m := tab_len _ _
theorem every_succ (m : Nat) : every (m + 1) = every m ++ [(m : Int)] := tab_succ _ _
theorem el_every {m k : Nat} (h : k < m) : el (every m) k = (k : Int) := tab_getD _ 0 h
theorem cr_every {a l : List Int} (h : crE a l = 0) : crE a (every a.length) = 0 ∧ (∀ k, k < a.length → crv a (every a.length) k = -(el a k)) ∧ crS a (every a.length) = -(sm (el a) a.length) := by
  obtain ⟨h1, h2, h3, h4, h5⟩ := cr_of h
  have e0 : crE a (every a.length) = 0 := by
    refine crE_ok h1 (by rw [every_len]; exact h1) h3 (crD_iff.2 fun i k hik hk => ?_) (fun k hk => ?_)
    · rw [every_len] at hk
      rw [el_every (by omega), el_every hk]
      omega
    · rw [every_len] at hk
      unfold crI
      rw [el_every hk]
      omega
  have e1 : ∀ k, k < a.length → crv a (every a.length) k = -(el a k) := fun k hk => by
    unfold crv
    rw [el_every hk, Int.toNat_natCast]
  refine ⟨e0, e1, ?_⟩
  rw [crS_yes e0, every_len]
  have : ∀ n, n ≤ a.length → sm (crv a (every a.length)) n = -(sm (el a) n) := by
    intro n
    induction n with
    | zero => intro _; rfl
    | succ n ih =>
      intro hn
      have e2 : sm (crv a (every a.length)) (n + 1) = sm (crv a (every a.length)) n + crv a (every a.length) n := rfl
      have e3 : sm (el a) (n + 1) = sm (el a) n + el a n := rfl
      rw [e2, e3, ih (by omega), e1 n (by omega)]
      omega
  exact this _ (Nat.le_refl _)
theorem sm_el_in {a : List Int} (h : crA a = true) (h1 : a.length ≤ 40) {k : Nat} (hk : k ≤ a.length) : -50000000000000 ≤ sm (el a) k ∧ sm (el a) k ≤ 50000000000000 := by
  have h2 := sm_bound (f := el a) (n := k) (lo := -1099511627776) (hi := 1099511627776) (fun i hi => crA_get h (by omega))
  omega
theorem every_wf {m : Nat} (hm : m ≤ 40) : ∀ x, x ∈ every m → 0 ≤ x ∧ x ≤ 40 := fun x hx => by
  obtain ⟨k, hk, rfl⟩ := List.getElem_of_mem hx
  rw [every_len] at hk
  have e : (every m)[k] = (k : Int) := by
    have := el_every hk
    rw [el_get (by rw [every_len]; exact hk)] at this
    exact this
  rw [e]
  omega
end Go.Proofs.YtdihnbjmeppbcaaDoor.Pl
