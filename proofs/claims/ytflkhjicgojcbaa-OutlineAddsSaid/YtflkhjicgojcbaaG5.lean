/- A centred outline: it is an outline, its middle is (0, 0), how far it reaches. -/
import Derived.Test.YtflkhjicgojcbaaL15
namespace Go.Proofs.Ytflkhjicgojcbaa
open Go.RowKit

theorem rch_max (l : List Geo.XY) (u v : Int) (h0 : 0 < l.length) : Geo.IsMax l (fun p => u * p.1 + v * p.2) (rchK l u v l.length) := by
  have : ∀ k, k ≤ l.length → (∀ j, j < k → u * (Geo.X l j).1 + v * (Geo.X l j).2 ≤ rchK l u v k) ∧ ∃ p, p ∈ l ∧ u * p.1 + v * p.2 = rchK l u v k := by
    intro k hk
    induction k with
    | zero => exact ⟨fun j hj => by omega, Geo.X l 0, Geo.X_mem h0, rfl⟩
    | succ k ih =>
      obtain ⟨h1, p, hp, he⟩ := ih (by omega)
      rw [rchK]
      by_cases c : rchK l u v k < u * (Geo.X l k).1 + v * (Geo.X l k).2
      · rw [if_pos c]
        exact ⟨fun j hj => by by_cases e : j = k; (subst e; omega); (have := h1 j (by omega); omega), _, Geo.X_mem (by omega), rfl⟩
      · rw [if_neg c]
        exact ⟨fun j hj => by by_cases e : j = k; (subst e; omega); (have := h1 j (by omega); omega), p, hp, he⟩
  obtain ⟨h1, h2⟩ := this _ (Nat.le_refl _)
  exact ⟨fun p hp => by obtain ⟨i, hi, rfl⟩ := Geo.mem_X hp; exact h1 i hi, h2⟩
theorem far_max (l : List Geo.XY) {p : Geo.XY} (hp : p ∈ l) : (p.1 * p.1 + p.2 * p.2).toNat ≤ farK l l.length := by
  have : ∀ k, ∀ j, j < k → ((Geo.X l j).1 * (Geo.X l j).1 + (Geo.X l j).2 * (Geo.X l j).2).toNat ≤ farK l k := by
    intro k
    induction k with
    | zero => intro j hj; omega
    | succ k ih =>
      intro j hj
      rw [farK]
      by_cases e : j = k
      · subst e; exact Nat.le_max_right _ _
      · exact Nat.le_trans (ih j (by omega)) (Nat.le_max_left _ _)
  obtain ⟨i, hi, rfl⟩ := Geo.mem_X hp
  exact this _ i hi
theorem sq_nn (x : Int) : 0 ≤ x * x := by
  rcases Int.le_total 0 x with h | h
  · exact Int.mul_nonneg h h
  · exact Int.mul_nonneg_of_nonpos_of_nonpos h h
theorem csq_ge {f : Nat} {a x y : Int} (ha : a = 2 * x) (h : (x * x + y * y).toNat ≤ f) : a ≤ (Geo.csq (4 * f) : Int) := by
  by_cases hx : x ≤ 0
  · omega
  · have h1 := (Geo.csq_spec (4 * f)).1
    have n1 := sq_nn x
    have n2 := sq_nn y
    refine Decidable.byContradiction fun hn => ?_
    obtain ⟨m, hm⟩ : ∃ m : Nat, x = m := ⟨x.toNat, by omega⟩
    subst hm
    have h2 : Geo.csq (4 * f) < 2 * m := by omega
    have h3 : Geo.csq (4 * f) * Geo.csq (4 * f) < (2 * m) * (2 * m) := Nat.mul_lt_mul'' h2 h2
    have h4 : (2 * m) * (2 * m) = 4 * (m * m) := by rw [Nat.mul_mul_mul_comm]
    have h5 : ((m * m : Nat) : Int) = (m : Int) * m := by rw [Int.natCast_mul]
    have h6 : m * m ≤ f := by omega
    omega

def cenL (l : List Geo.XY) : List Geo.XY := Geo.canon (l.map (subXY (midP l)))
theorem ends_sub (l : List Geo.XY) (q : Geo.XY) (h0 : 0 < l.length) : lowP (l.map (subXY q)) (l.map (subXY q)).length = subXY q (lowP l l.length) ∧ highP (l.map (subXY q)) (l.map (subXY q)).length = subXY q (highP l l.length) := by
  have h0' : 0 < (l.map (subXY q)).length := by rw [List.length_map]; exact h0
  have a1 := (low_max1 _ h0').unique (((low_max1 l h0).add (c := q.1) (g := fun p => -(p.1 - q.1)) fun p => by omega).map (f := fun p => -p.1) (k := subXY q) fun p => by simp [subXY])
  have a2 := (low_max2 _ h0').unique (((low_max2 l h0).add (c := q.2) (g := fun p => -(p.2 - q.2)) fun p => by omega).map (f := fun p => -p.2) (k := subXY q) fun p => by simp [subXY])
  have a3 := (high_max1 _ h0').unique (((high_max1 l h0).add (c := -q.1) (g := fun p => p.1 - q.1) fun p => by omega).map (f := fun p => p.1) (k := subXY q) fun p => by simp [subXY])
  have a4 := (high_max2 _ h0').unique (((high_max2 l h0).add (c := -q.2) (g := fun p => p.2 - q.2) fun p => by omega).map (f := fun p => p.2) (k := subXY q) fun p => by simp [subXY])
  unfold subXY at *
  exact ⟨Prod.ext (by dsimp only; omega) (by dsimp only; omega), Prod.ext (by dsimp only; omega) (by dsimp only; omega)⟩
theorem valid_cen {l : List Geo.XY} (h : Valid l) : Valid (l.map (subXY (midP l))) := by
  refine valid_of_rg (by rw [List.length_map]; exact h.1) (by rw [List.length_map]; exact h.2.1) (fun p hp => ?_) (h.rg.map _ fun a b c => by unfold Geo.Cross subXY; grind)
  obtain ⟨q, hq, rfl⟩ := List.mem_map.1 hp
  have b1 := (low_max1 l h.pos).1 q hq
  have b2 := (low_max2 l h.pos).1 q hq
  have b3 := (high_max1 l h.pos).1 q hq
  have b4 := (high_max2 l h.pos).1 q hq
  obtain ⟨l1, l2, l3, l4⟩ := lowP_bd h.allin l.length
  obtain ⟨k1, k2, k3, k4⟩ := highP_bd h.allin l.length
  unfold Geo.In subXY midP
  dsimp only at *
  omega
theorem cen_len (l : List Geo.XY) : (cenL l).length = l.length := by unfold cenL; rw [Geo.canon_length, List.length_map]
theorem cen_valid {l : List Geo.XY} (h : Valid l) : Valid (cenL l) := (valid_cen h).canon
theorem cen_ends {l : List Geo.XY} (h : Valid l) : lowP (cenL l) (cenL l).length = subXY (midP l) (lowP l l.length) ∧ highP (cenL l) (cenL l).length = subXY (midP l) (highP l l.length) := by
  have h1 := ends_canon (valid_cen h).pos
  have h2 := ends_sub l (midP l) h.pos
  unfold cenL
  exact ⟨h1.1.trans h2.1, h1.2.trans h2.2⟩
theorem cen_mid {l : List Geo.XY} (h : Valid l) : midP (cenL l) = (0, 0) := by
  have h1 := cen_ends h
  unfold midP at *
  rw [h1.1, h1.2]
  unfold subXY
  dsimp only
  refine Prod.ext ?_ ?_ <;> dsimp only <;> omega
theorem cen_again {l : List Geo.XY} (h : Valid l) : lstV (cenL l) ((cenL l).map (subXY (midP (cenL l)))) = (cenL l, 0) := by
  rw [lstV_ok (validB_true (cen_valid h)), cen_mid h]
  have : subXY (0, 0) = id := by funext p; simp [subXY]
  rw [this, List.map_id]
  unfold cenL
  rw [canon_same (valid_cen h)]
theorem box_pos {l : List Geo.XY} (h : Valid l) : 0 ≤ boxA l ∧ 0 ≤ boxB l := by
  have hm := Geo.X_mem h.pos
  have b1 := (low_max1 l h.pos).1 _ hm
  have b2 := (low_max2 l h.pos).1 _ hm
  have b3 := (high_max1 l h.pos).1 _ hm
  have b4 := (high_max2 l h.pos).1 _ hm
  unfold boxA boxB
  dsimp only at *
  omega
theorem boxB_bd {l : List Geo.XY} (h : AllIn l) : -10000 ≤ boxB l ∧ boxB l ≤ 10000 := by
  obtain ⟨l1, l2, l3, l4⟩ := lowP_bd h l.length
  obtain ⟨k1, k2, k3, k4⟩ := highP_bd h l.length
  unfold boxB; omega
theorem cen_reach {l : List Geo.XY} (h : Valid l) : rchK (cenL l) 1 0 (cenL l).length = boxA (cenL l) - boxA (cenL l) / 2 ∧ rchK (cenL l) 0 1 (cenL l).length = boxB (cenL l) - boxB (cenL l) / 2 := by
  have hv := cen_valid h
  have m1 := rch_max (cenL l) 1 0 hv.pos
  have m2 := rch_max (cenL l) 0 1 hv.pos
  simp only [Int.one_mul, Int.zero_mul, Int.add_zero, Int.zero_add] at m1 m2
  have e1 := m1.unique (high_max1 _ hv.pos)
  have e2 := m2.unique (high_max2 _ hv.pos)
  have h1 := cen_ends h
  rw [e1, e2]
  unfold boxA boxB
  rw [h1.1, h1.2]
  unfold subXY midP
  dsimp only
  omega
theorem cen_dia {l : List Geo.XY} (h : Valid l) : (boxA (cenL l) % 2 = 0 → boxA (cenL l) ≤ (Geo.csq (4 * farK (cenL l) (cenL l).length) : Int)) ∧ (boxB (cenL l) % 2 = 0 → boxB (cenL l) ≤ (Geo.csq (4 * farK (cenL l) (cenL l).length) : Int)) := by
  have hv := cen_valid h
  have hr := cen_reach h
  have m1 := rch_max (cenL l) 1 0 hv.pos
  have m2 := rch_max (cenL l) 0 1 hv.pos
  simp only [Int.one_mul, Int.zero_mul, Int.add_zero, Int.zero_add] at m1 m2
  obtain ⟨_, p, hp, ep⟩ := m1
  obtain ⟨_, q, hq, eq⟩ := m2
  rw [hr.1] at ep
  rw [hr.2] at eq
  dsimp only at ep eq
  constructor
  · intro he
    exact csq_ge (x := p.1) (y := p.2) (by omega) (far_max _ hp)
  · intro he
    exact csq_ge (x := q.2) (y := q.1) (by omega) (by rw [Int.add_comm]; exact far_max _ hq)
end Go.Proofs.Ytflkhjicgojcbaa
