/- Plain geometry: the sum of two outlines is an outline; it holds all sums of their corners. It imports nothing of the program. -/
import Derived.Test.YtflkhjicgojcbaaG7
namespace Go.Proofs.Ytflkhjicgojcbaa.Geo

/-- the polygon of the sums -/
def sumPoly (o p : List XY) : List XY := walkL (add (X o 0) (X p 0)) (merge (stepsL o) (stepsL p))
theorem sumPoly_len (o p : List XY) : (sumPoly o p).length = (merge (stepsL o) (stepsL p)).length := walkL_len _ _
theorem take_X (l : List XY) {k : Nat} (h : k < l.length) : l.take (k + 1) = l.take k ++ [X l k] := by
  rw [List.take_add_one, List.getElem?_eq_getElem h]
  simp [X, h]
theorem pw_X {l : List XY} (h : l.Pairwise ang) {i j : Nat} (hij : i < j) (hj : j < l.length) : ang (X l i) (X l j) := by
  have := List.pairwise_iff_getElem.1 h i j (by omega) hj hij
  unfold X
  rw [List.getElem?_eq_getElem hj, List.getElem?_eq_getElem (show i < l.length by omega)]
  exact this
theorem merge_pos {s t : List XY} (h : s ≠ []) : 0 < (merge s t).length := by
  cases s with
  | nil => exact absurd rfl h
  | cons a s =>
    cases t with
    | nil => rw [merge]; simp
    | cons b t => rw [merge]; split; · simp
                  split <;> simp
theorem steps_ne {o : List XY} (h : Std o) : stepsL o ≠ [] := by
  intro he
  have := stepsL_len o
  rw [he] at this
  have := h.pos
  simp at *; omega

theorem sp_pos {o p : List XY} (ho : Std o) (_hp : Std p) : 0 < (sumPoly o p).length := by rw [sumPoly_len]; exact merge_pos (steps_ne ho)
theorem sp_edge {o p : List XY} (_ho : Std o) (_hp : Std p) {k : Nat} (hk : k < (sumPoly o p).length) : edge (At (sumPoly o p)) k = X (merge (stepsL o) (stepsL p)) k := by
  have hl := sumPoly_len o p
  have hz : tot (merge (stepsL o) (stepsL p)) = (0, 0) := by rw [tot_merge, tot_steps, tot_steps]; rfl
  obtain ⟨Z, hZ⟩ : ∃ Z, Z = merge (stepsL o) (stepsL p) := ⟨_, rfl⟩
  obtain ⟨st, hst⟩ : ∃ x, x = add (X o 0) (X p 0) := ⟨_, rfl⟩
  have hQ : sumPoly o p = walkL st Z := by unfold sumPoly; rw [← hZ, ← hst]
  rw [← hZ] at hl hz ⊢
  have e0 : At (sumPoly o p) k = add st (tot (Z.take k)) := by rw [At_lt _ hk, hQ, X_walkL st Z (by omega)]
  have e2 : tot (Z.take (k + 1)) = add (tot (Z.take k)) (X Z k) := by rw [take_X Z (by omega), tot_append, tot, tot, add_zero]
  have e1 : At (sumPoly o p) (k + 1) = add st (tot (Z.take (k + 1))) := by
    by_cases c : k + 1 < (sumPoly o p).length
    · rw [At_lt _ c, hQ, X_walkL st Z (by omega)]
    · rw [show k + 1 = 0 + (sumPoly o p).length by omega, At_per, At_lt _ (by omega), hQ, X_walkL st Z (by omega)]
      rw [show 0 + (walkL st Z).length = Z.length by rw [walkL_len]; omega, List.take_length, hz]
      rfl
  unfold edge
  rw [e0, e1, e2]
  unfold sub add; ext <;> simp <;> omega
theorem sp_edge_mod {o p : List XY} (ho : Std o) (hp : Std p) (i : Nat) : edge (At (sumPoly o p)) i = X (merge (stepsL o) (stepsL p)) (i % (sumPoly o p).length) := by
  have hm := Nat.mod_lt i (sp_pos ho hp)
  rw [← sp_edge ho hp hm]
  unfold edge
  rw [At_mod, At_congr _ (show (i % (sumPoly o p).length + 1) % (sumPoly o p).length = (i + 1) % (sumPoly o p).length by rw [Nat.mod_add_mod])]
theorem sp_nz {o p : List XY} (ho : Std o) (hp : Std p) {k : Nat} (hk : k < (sumPoly o p).length) : Nz (X (merge (stepsL o) (stepsL p)) k) :=
  merge_nz (ho.mg hp) _ (X_mem (by rw [← sumPoly_len]; exact hk))
theorem sp_ang {o p : List XY} (ho : Std o) (hp : Std p) {i j : Nat} (hij : i < j) (hj : j < (sumPoly o p).length) : ang (X (merge (stepsL o) (stepsL p)) i) (X (merge (stepsL o) (stepsL p)) j) :=
  pw_X (merge_pw (ho.mg hp)) hij (by rw [← sumPoly_len]; exact hj)
theorem sp_first {o p : List XY} (ho : Std o) (hp : Std p) : ale (X (merge (stepsL o) (stepsL p)) 0) (edge (At o) 0) := by
  have h0 : edge (At o) 0 ∈ stepsL o := List.mem_map.2 ⟨0, List.mem_range.2 ho.pos, rfl⟩
  obtain ⟨z, hz, hu, hc⟩ := merge_cover (ho.mg hp) _ h0
  obtain ⟨k, hk, rfl⟩ := mem_X hz
  rw [← sumPoly_len] at hk
  refine ale_par_r (ho.nz 0) (sp_nz ho hp hk) hu hc ?_
  by_cases c : k = 0
  · rw [c]; exact ale_refl _
  · exact (sp_ang ho hp (by omega) hk).le
theorem sp_last {o p : List XY} (ho : Std o) (hp : Std p) : ale (edge (At o) (o.length - 1)) (X (merge (stepsL o) (stepsL p)) ((sumPoly o p).length - 1)) := by
  have hpo := sp_pos ho hp
  have h0 : edge (At o) (o.length - 1) ∈ stepsL o := List.mem_map.2 ⟨o.length - 1, List.mem_range.2 (by have := ho.pos; omega), rfl⟩
  obtain ⟨z, hz, hu, hc⟩ := merge_cover (ho.mg hp) _ h0
  obtain ⟨k, hk, rfl⟩ := mem_X hz
  rw [← sumPoly_len] at hk
  refine ale_par_l (ho.nz _) (sp_nz ho hp hk) hu hc ?_
  by_cases c : k = (sumPoly o p).length - 1
  · rw [c]; exact ale_refl _
  · exact (sp_ang ho hp (by omega) (by omega)).le
theorem sp_up0 {o p : List XY} (ho : Std o) (hp : Std p) : up (X (merge (stepsL o) (stepsL p)) 0) := by
  rcases sp_first ho hp with ⟨h, _⟩ | ⟨h, _⟩
  · exact h
  · exact h.2 ho.up0
theorem sp_upl {o p : List XY} (ho : Std o) (hp : Std p) : ¬ up (X (merge (stepsL o) (stepsL p)) ((sumPoly o p).length - 1)) := by
  rcases sp_last ho hp with ⟨h, _⟩ | ⟨h, _⟩
  · exact absurd h ho.upn
  · exact fun hu => ho.upn (h.2 hu)
theorem sp_cyc {o p : List XY} (ho : Std o) (hp : Std p) : 0 < cr (X (merge (stepsL o) (stepsL p)) ((sumPoly o p).length - 1)) (X (merge (stepsL o) (stepsL p)) 0) := by
  have hpo := sp_pos ho hp
  have u0 := sp_up0 ho hp
  have ul := sp_upl ho hp
  have n0 := sp_nz ho hp hpo
  have nl := sp_nz ho hp (k := (sumPoly o p).length - 1) (by omega)
  have hc := ho.hl (o.length - 1)
  have e := ho.per 0
  rw [Nat.zero_add] at e
  rw [show o.length - 1 + 1 = o.length by have := ho.pos; omega, e] at hc
  rcases sp_first ho hp with ⟨_, h⟩ | ⟨h1, h2⟩
  · exact absurd ho.up0 h
  · rcases sp_last ho hp with ⟨h, _⟩ | ⟨k1, k2⟩
    · exact absurd h ho.upn
    · have s1 := opp (ho.nz (o.length - 1)) nl (ho.nz 0) k1 ⟨fun h => absurd h ho.upn, fun h => absurd ho.up0 h⟩ k2 hc
      exact opp3 (ho.nz 0) n0 nl h1.symm ⟨fun _ => ul, fun _ => ho.up0⟩ h2 s1
theorem sp_hl {o p : List XY} (ho : Std o) (hp : Std p) (i : Nat) : 0 < cr (edge (At (sumPoly o p)) i) (edge (At (sumPoly o p)) (i + 1)) := by
  have hpo := sp_pos ho hp
  rw [sp_edge_mod ho hp, sp_edge_mod ho hp]
  have hi := Nat.mod_lt i hpo
  by_cases c : i % (sumPoly o p).length + 1 < (sumPoly o p).length
  · have e : (i + 1) % (sumPoly o p).length = i % (sumPoly o p).length + 1 := by
      rw [← Nat.mod_add_mod, Nat.mod_eq_of_lt c]
    rw [e]
    have hl := sumPoly_len o p
    refine ch_get (merge_ch (ho.mg hp)) (i := i % (sumPoly o p).length) ?_ ?_
    · unfold X; rw [List.getElem?_eq_getElem (by omega)]; rfl
    · unfold X; rw [List.getElem?_eq_getElem (by omega)]; rfl
  · have e : (i + 1) % (sumPoly o p).length = 0 := by
      rw [← Nat.mod_add_mod, show i % (sumPoly o p).length + 1 = (sumPoly o p).length by omega, Nat.mod_self]
    rw [e, show i % (sumPoly o p).length = (sumPoly o p).length - 1 by omega]
    exact sp_cyc ho hp
theorem sp_R {o p : List XY} (ho : Std o) (hp : Std p) : R (At (sumPoly o p)) (sumPoly o p).length = 1 := by
  have hpo := sp_pos ho hp
  have h0 : ∀ k, k < (sumPoly o p).length → R (At (sumPoly o p)) k = 0 := by
    intro k hk
    induction k with
    | zero => rfl
    | succ k ih =>
      rw [R, ih (by omega), if_neg]
      rintro ⟨h1, h2⟩
      rw [sp_edge ho hp hk] at h1
      rw [sp_edge ho hp (by omega)] at h2
      rcases sp_ang ho hp (show k < k + 1 by omega) hk with ⟨a, _⟩ | ⟨a, _⟩
      · exact h2 a
      · exact h2 (a.2 h1)
  obtain ⟨m, hm⟩ : ∃ m, (sumPoly o p).length = m + 1 := ⟨(sumPoly o p).length - 1, by omega⟩
  have u1 := sp_edge_mod ho hp (sumPoly o p).length
  rw [Nat.mod_self] at u1
  have u2 := sp_edge ho hp (k := (sumPoly o p).length - 1) (by omega)
  have k0 := sp_up0 ho hp
  have kl := sp_upl ho hp
  rw [← u1] at k0
  rw [← u2] at kl
  have hR := h0 m (by omega)
  rw [hm] at k0 kl ⊢
  rw [Nat.add_sub_cancel] at kl
  rw [R, hR, if_pos ⟨k0, kl⟩]
theorem sp_rg {o p : List XY} (ho : Std o) (hp : Std p) : RG (sumPoly o p) := by
  intro i k h2 hk
  rw [Cross_cr]
  exact local_global (At_per _) (sp_hl ho hp) (sp_R ho hp) i k h2 hk
theorem sp_three {o p : List XY} (ho : Std o) (hp : Std p) : 3 ≤ (sumPoly o p).length := by
  have hpo := sp_pos ho hp
  have hl := sp_hl ho hp 0
  have hl1 := sp_hl ho hp 1
  refine Decidable.byContradiction fun hn => ?_
  by_cases c : (sumPoly o p).length = 1
  · have e := edge_per (P := At (sumPoly o p)) (At_per _) 0
    rw [c] at e
    rw [e, cr_self] at hl
    omega
  · have e := edge_per (P := At (sumPoly o p)) (At_per _) 0
    rw [show (sumPoly o p).length = 2 by omega] at e
    rw [show 1 + 1 = 0 + 2 from rfl, e] at hl1
    have := cr_flip (edge (At (sumPoly o p)) 0) (edge (At (sumPoly o p)) 1)
    rw [Nat.zero_add] at hl
    omega
/-- corner k is the sum of two corners that support their outlines in the direction of step k -/
theorem sp_corner {o p : List XY} (ho : Std o) (hp : Std p) {k : Nat} (hk : k < (sumPoly o p).length) : ∃ i j, X (sumPoly o p) k = add (At o i) (At p j) ∧ Sup o i (edge (At (sumPoly o p)) k) ∧ Sup p j (edge (At (sumPoly o p)) k) := by
  have hw := trip_walk o p 0 0 (stepsL o) (stepsL p) (List.drop_zero ..).symm (List.drop_zero ..).symm
  have hz := trip_z 0 0 (stepsL o) (stepsL p)
  rw [At_lt o ho.pos, At_lt p hp.pos] at hw
  have hs := trip_sup ho hp 0 0 (stepsL o) (stepsL p) (List.drop_zero ..).symm (List.drop_zero ..).symm (Nat.zero_le _) (Nat.zero_le _) (ho.mg hp) (fun h => by omega) (fun h => by omega)
  have hk2 : k < (trip 0 0 (stepsL o) (stepsL p)).length := by
    have := congrArg List.length hz
    rw [List.length_map, ← sumPoly_len] at this
    omega
  obtain ⟨q, hq⟩ : ∃ q, (trip 0 0 (stepsL o) (stepsL p))[k]? = some q := ⟨_, List.getElem?_eq_getElem hk2⟩
  have hmem := List.mem_of_getElem? hq
  obtain ⟨_, s1, s2⟩ := hs q hmem
  have e1 : X (sumPoly o p) k = add (At o q.1) (At p q.2.1) := by
    unfold X sumPoly
    rw [hw, List.getElem?_map, hq]; rfl
  have e2 : edge (At (sumPoly o p)) k = q.2.2 := by
    rw [sp_edge ho hp hk, ← hz]
    unfold X
    rw [List.getElem?_map, hq]; rfl
  exact ⟨q.1, q.2.1, e1, by rw [e2]; exact s1, by rw [e2]; exact s2⟩
theorem sp_mem {o p : List XY} (ho : Std o) (hp : Std p) {q : XY} (hq : q ∈ sumPoly o p) : ∃ a b, a ∈ o ∧ b ∈ p ∧ q = add a b := by
  obtain ⟨k, hk, rfl⟩ := mem_X hq
  obtain ⟨i, j, he, _⟩ := sp_corner ho hp hk
  refine ⟨At o i, At p j, ?_, ?_, he⟩
  · rw [At_X o ho.pos]; exact X_mem (Nat.mod_lt _ ho.pos)
  · rw [At_X p hp.pos]; exact X_mem (Nat.mod_lt _ hp.pos)
theorem sp_hold {o p : List XY} (ho : Std o) (hp : Std p) {a b : XY} (ha : a ∈ o) (hb : b ∈ p) {k : Nat} (hk : k < (sumPoly o p).length) : 0 ≤ cr (edge (At (sumPoly o p)) k) (sub (add a b) (X (sumPoly o p) k)) := by
  obtain ⟨i, j, he, h1, h2⟩ := sp_corner ho hp hk
  have k1 := h1 a ha
  have k2 := h2 b hb
  rw [he]
  have e : sub (add a b) (add (At o i) (At p j)) = add (sub a (At o i)) (sub b (At p j)) := by unfold sub add; ext <;> simp <;> omega
  rw [e, cr_add_r]
  omega
theorem sp_std {o p : List XY} (ho : Std o) (hp : Std p) : Std (sumPoly o p) := by
  refine ⟨sp_three ho hp, sp_rg ho hp, fun j hj => ?_⟩
  have e0 : X (sumPoly o p) 0 = add (X o 0) (X p 0) := by
    have := X_walkL (add (X o 0) (X p 0)) (merge (stepsL o) (stepsL p)) (k := 0) (by rw [← sumPoly_len]; exact sp_pos ho hp)
    rw [List.take_zero, tot, add_zero] at this
    exact this
  obtain ⟨a, b, ha, hb, he⟩ := sp_mem ho hp (X_mem hj)
  obtain ⟨i, hi, rfl⟩ := mem_X ha
  obtain ⟨i', hi', rfl⟩ := mem_X hb
  have l1 := ho.lo i hi
  have l2 := hp.lo i' hi'
  rw [e0, he]
  unfold low add at *
  simp only at *
  omega
theorem canon_std {o : List XY} (h : Std o) : canon o = o := by
  have h0 := h.pos
  have hd := h.rg.dist h.h3
  have hm := lowIdx_lt o o.length h0
  have hl := lowIdx_least o o.length
  have e : lowIdx o o.length = 0 := by
    refine Decidable.byContradiction fun hn => ?_
    exact hl 0 h0 (h.low0 (by omega) hm)
  unfold canon
  rw [e]; simp
theorem std_canon {o : List XY} (h3 : 3 ≤ o.length) (h : RG o) : Std (canon o) := by
  have hl := canon_length o
  refine ⟨by omega, h.rot (lowIdx_le o), fun j hj => ?_⟩
  rw [hl] at hj
  rw [canon_get o j hj, canon_get o 0 (by omega), Nat.add_zero, At_lt o (lowIdx_lt o _ (by omega)), At_X o (by omega)]
  exact lowIdx_least o o.length _ (Nat.mod_lt _ (by omega))
theorem merge_comm (s t : List XY) : merge s t = merge t s := by
  induction s, t using merge.induct with
  | case1 t => rw [merge, merge_nil]
  | case2 a s => rw [merge, merge]
  | case3 a s b t hlt ih =>
    have f := cr_flip a b
    rw [merge, if_pos hlt, merge, if_neg (by omega), if_pos (by omega), ih]
  | case4 a s b t hlt hgt ih =>
    have f := cr_flip a b
    rw [merge, if_neg hlt, if_pos hgt, merge, if_pos (by omega), ih]
  | case5 a s b t hlt hgt ih =>
    have f := cr_flip a b
    rw [merge, if_neg hlt, if_neg hgt, merge, if_neg (by omega), if_neg (by omega), ih, add_comm]
theorem sumPoly_comm (o p : List XY) : sumPoly o p = sumPoly p o := by
  unfold sumPoly; rw [merge_comm, add_comm]
end Go.Proofs.Ytflkhjicgojcbaa.Geo
