/- Plain: the price that is found after one more was appended. -/
import Derived.Test.YtdihnbjmeppbcaaDoorP5
namespace Go.Proofs.YtdihnbjmeppbcaaDoor.Pl

theorem dof_app {ks : List Ky} {e : Ky} {r : Option Nat} (h : ∀ j, r = some j → j < ks.length) : dof (ks ++ [e]) r = dof ks r := by
  cases r with
  | none => rfl
  | some j =>
    have hj := h j rfl
    unfold dof
    simp only [List.getD_eq_getElem?_getD]
    rw [List.getElem?_append_left hj]
theorem lt_app {ks : List Ky} {e : Ky} {n : ByteArray} {d : Int} : ∀ {k : Nat}, k ≤ ks.length → lt (ks ++ [e]) n d k = lt ks n d k
  | 0, _ => rfl
  | k + 1, hk => by
    have ih := lt_app (ks := ks) (e := e) (n := n) (d := d) (k := k) (by omega)
    rw [lt_step (ks := ks ++ [e]) (k := k) (by simp; omega), lt_step (ks := ks) (k := k) (by omega), List.getElem_append_left (by omega), ih, dof_app (fun j hj => by have := lt_lt hj; omega)]
theorem lt_end {ks : List Ky} {e : Ky} {n : ByteArray} {d : Int} (h : ¬ (e.1 = n ∧ e.2 ≤ d)) : lt (ks ++ [e]) n d (ks.length + 1) = lt ks n d ks.length := by
  have e1 : (ks ++ [e])[ks.length]'(by simp) = e := by simp
  rw [lt_step (ks := ks ++ [e]) (k := ks.length) (by simp), e1, if_neg (fun hh => h ⟨hh.1, hh.2.2⟩), lt_app (Nat.le_refl _)]
theorem fnd_app {l : List Pr} {o : Pr} {r : Option Nat} (h : ∀ j, r = some j → j < l.length) : fnd (l ++ [o]) r = fnd l r := by
  cases r with
  | none => rfl
  | some j =>
    have hj := h j rfl
    rw [fnd_some (show j < (l ++ [o]).length by simp; omega), fnd_some hj, List.getElem_append_left hj]
theorem lt_more {l : List Pr} {o : Pr} {n : ByteArray} {d : Int} (h : ¬ (o.md = n ∧ o.d ≤ d)) : lt ((l ++ [o]).map pk) n d (l ++ [o]).length = lt (l.map pk) n d l.length := by
  have e1 : (l ++ [o]).map pk = l.map pk ++ [pk o] := by simp
  have e2 : (l ++ [o]).length = (l.map pk).length + 1 := by simp
  rw [e1, e2, lt_end h, List.length_map]
theorem prG_more {l : List Pr} {o : Pr} {n : ByteArray} {d q : Int} (h1 : vps l = true) (h2 : vps (l ++ [o]) = true) (h : ¬ (o.md = n ∧ o.d ≤ d)) : prU (l ++ [o]) n d q = prU l n d q ∧ prG (l ++ [o]) n d q = prG l n d q := by
  have e1 := lt_more (l := l) h
  have e2 : prF (l ++ [o]) n d q = prF l n d q := by
    unfold prF
    rw [h1, h2, e1, fnd_app (fun j hj => lt_lt hj)]
  refine ⟨?_, ?_⟩
  · unfold prU
    rw [e2]
  · unfold prG
    rw [h1, h2, e1]
theorem prG_bad {l : List Pr} {n : ByteArray} {d q : Int} (h : vps l = false) : prU l n d q = 0 ∧ prG l n d q = 80 := by
  have e : prG l n d q = 80 := by unfold prG; rw [h]; rfl
  exact ⟨prU_no (by rw [e]; decide), e⟩
end Go.Proofs.YtdihnbjmeppbcaaDoor.Pl
