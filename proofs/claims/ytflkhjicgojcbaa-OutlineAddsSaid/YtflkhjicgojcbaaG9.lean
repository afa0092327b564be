/- Plain geometry: a sum has at least the area of both. It imports nothing of the program. -/
import Derived.Test.YtflkhjicgojcbaaG8
namespace Go.Proofs.Ytflkhjicgojcbaa.Geo

def lsum : List Int → Int
  | [] => 0
  | x :: l => x + lsum l
theorem lsum_sumN (l : List Int) (g : Nat → Int) (h : ∀ k, k < l.length → l[k]? = some (g k)) : lsum l = sumN g l.length := by
  induction l generalizing g with
  | nil => rfl
  | cons x l ih =>
    rw [lsum, List.length_cons, sumN_first]
    have h0 := h 0 (by simp)
    simp at h0
    rw [← h0, ih (fun i => g (i + 1)) (fun k hk => by have := h (k + 1) (by simp; omega); rwa [List.getElem?_cons_succ] at this)]
/-- the area that the steps sweep -/
def ar (P : Nat → XY) : Nat → List XY → Int
  | _, [] => 0
  | i, a :: s => cr (P i) a + ar P (i + 1) s
theorem ar_steps (o : List XY) (i : Nat) (s : List XY) (hs : s = (stepsL o).drop i) (hi : i ≤ o.length) : ar (At o) i s = areaK o o.length - areaK o i := by
  induction s generalizing i with
  | nil =>
    have := drop_nil hs
    rw [ar, show i = o.length by omega]; omega
  | cons a s ih =>
    obtain ⟨h1, h2, h3⟩ := drop_cons hs
    rw [ar, ih (i + 1) h3 h1, areaK, h2]
    have : cr (At o i) (edge (At o) i) = cr (At o i) (At o (i + 1)) := by unfold edge cr sub; grind
    omega
theorem par_nn {d z w : XY} (nd : Nz d) (nz : Nz z) (hu : up d ↔ up z) (hc : cr d z = 0) (h : 0 ≤ cr z w) : 0 ≤ cr d w := by
  refine Decidable.byContradiction fun hn => ?_
  have e1 := cr_neg_r d w
  have e2 := cr_neg_r z w
  have := par_pos nd nz hu hc (c := neg w) (by omega)
  omega
theorem cr_sup {z x y : XY} (h : 0 ≤ cr z (sub y x)) : cr y z ≤ cr x z := by
  have : cr x z - cr y z = cr z (sub y x) := by unfold cr sub; grind
  omega
theorem trip_area {o p : List XY} (ho : Std o) (hp : Std p) (i j : Nat) (s t : List XY) (hs : s = (stepsL o).drop i) (ht : t = (stepsL p).drop j) (hM : Mg s t)
    (hsup : ∀ q, q ∈ trip i j s t → Sup o q.1 q.2.2 ∧ Sup p q.2.1 q.2.2) :
    ar (At o) i s + ar (At p) j t + cr (X p 0) (tot s) + cr (X o 0) (tot t) ≤ lsum ((trip i j s t).map fun q => cr (add (At o q.1) (At p q.2.1)) q.2.2) := by
  have mo := X_mem ho.pos
  have mp := X_mem hp.pos
  induction i, j, s, t using trip.induct with
  | case1 i j => rw [trip, ar, ar, tot]; simp [cr, lsum]
  | case2 i j b t ih =>
    rw [trip] at hsup
    obtain ⟨_, hb, ht'⟩ := drop_cons ht
    have := ih hs ht' hM.tail2 (fun q hq => hsup q (List.mem_cons_of_mem _ hq))
    obtain ⟨s1, s2⟩ := hsup _ (List.mem_cons_self ..)
    have k := cr_sup (s1 _ mo)
    have e1 : ar (At p) j (b :: t) = cr (At p j) b + ar (At p) (j + 1) t := rfl
    have e2 : tot (b :: t) = add b (tot t) := rfl
    rw [trip, List.map_cons, lsum, e1, e2, cr_add_r, cr_add_l]
    dsimp only at k ⊢
    omega
  | case3 i j a s ih =>
    rw [trip] at hsup
    obtain ⟨_, ha, hs'⟩ := drop_cons hs
    have := ih hs' ht hM.tail1 (fun q hq => hsup q (List.mem_cons_of_mem _ hq))
    obtain ⟨s1, s2⟩ := hsup _ (List.mem_cons_self ..)
    have k := cr_sup (s2 _ mp)
    have e1 : ar (At o) i (a :: s) = cr (At o i) a + ar (At o) (i + 1) s := rfl
    have e2 : tot (a :: s) = add a (tot s) := rfl
    rw [trip, List.map_cons, lsum, e1, e2, cr_add_r, cr_add_l]
    dsimp only at k ⊢
    omega
  | case4 i j a s b t hlt ih =>
    rw [trip, if_pos hlt] at hsup
    obtain ⟨_, ha, hs'⟩ := drop_cons hs
    have := ih hs' ht (hM.step hlt) (fun q hq => hsup q (List.mem_cons_of_mem _ hq))
    obtain ⟨s1, s2⟩ := hsup _ (List.mem_cons_self ..)
    have k := cr_sup (s2 _ mp)
    have e1 : ar (At o) i (a :: s) = cr (At o i) a + ar (At o) (i + 1) s := rfl
    have e2 : tot (a :: s) = add a (tot s) := rfl
    rw [trip, if_pos hlt, List.map_cons, lsum, e1, e2, cr_add_r, cr_add_l]
    dsimp only at k ⊢
    omega
  | case5 i j a s b t hlt hgt ih =>
    rw [trip, if_neg hlt, if_pos hgt] at hsup
    obtain ⟨_, hb, ht'⟩ := drop_cons ht
    have := ih hs ht' (hM.step2 hgt) (fun q hq => hsup q (List.mem_cons_of_mem _ hq))
    obtain ⟨s1, s2⟩ := hsup _ (List.mem_cons_self ..)
    have k := cr_sup (s1 _ mo)
    have e1 : ar (At p) j (b :: t) = cr (At p j) b + ar (At p) (j + 1) t := rfl
    have e2 : tot (b :: t) = add b (tot t) := rfl
    rw [trip, if_neg hlt, if_pos hgt, List.map_cons, lsum, e1, e2, cr_add_r, cr_add_l]
    dsimp only at k ⊢
    omega
  | case6 i j a s b t hlt hgt ih =>
    have he : cr a b = 0 := by omega
    have na := hM.ns a (List.mem_cons_self ..)
    have nb := hM.nt b (List.mem_cons_self ..)
    have hu := hM.eq he
    have fe := cr_flip a b
    have hua := up_add nb hu
    have nz := nz_add na nb hu
    rw [trip, if_neg hlt, if_neg hgt] at hsup
    obtain ⟨_, ha, hs'⟩ := drop_cons hs
    obtain ⟨_, hb, ht'⟩ := drop_cons ht
    have := ih hs' ht' (hM.both he) (fun q hq => hsup q (List.mem_cons_of_mem _ hq))
    obtain ⟨s1, s2⟩ := hsup _ (List.mem_cons_self ..)
    have k1 := cr_sup (par_nn nb nz (hu.symm.trans hua.symm) (by rw [cr_add_r, cr_self]; omega) (s1 _ mo))
    have k2 := cr_sup (par_nn na nz hua.symm (by rw [cr_add_r, cr_self]; omega) (s2 _ mp))
    have e1 : ar (At o) i (a :: s) = cr (At o i) a + ar (At o) (i + 1) s := rfl
    have e2 : tot (a :: s) = add a (tot s) := rfl
    have e3 : ar (At p) j (b :: t) = cr (At p j) b + ar (At p) (j + 1) t := rfl
    have e4 : tot (b :: t) = add b (tot t) := rfl
    rw [trip, if_neg hlt, if_neg hgt, List.map_cons, lsum, e1, e2, e3, e4, cr_add_r, cr_add_r]
    dsimp only at k1 k2 ⊢
    rw [cr_add_r, cr_add_l, cr_add_l]
    omega
theorem sp_area {o p : List XY} (ho : Std o) (hp : Std p) : areaK o o.length + areaK p p.length ≤ areaK (sumPoly o p) (sumPoly o p).length := by
  have hz := trip_z 0 0 (stepsL o) (stepsL p)
  have hw := trip_walk o p 0 0 (stepsL o) (stepsL p) (List.drop_zero ..).symm (List.drop_zero ..).symm
  rw [At_lt o ho.pos, At_lt p hp.pos] at hw
  have hs := trip_sup ho hp 0 0 (stepsL o) (stepsL p) (List.drop_zero ..).symm (List.drop_zero ..).symm (Nat.zero_le _) (Nat.zero_le _) (ho.mg hp) (fun h => by omega) (fun h => by omega)
  have ha := trip_area ho hp 0 0 (stepsL o) (stepsL p) (List.drop_zero ..).symm (List.drop_zero ..).symm (ho.mg hp) (fun q hq => (hs q hq).2)
  rw [ar_steps o 0 _ (List.drop_zero ..).symm (Nat.zero_le _), ar_steps p 0 _ (List.drop_zero ..).symm (Nat.zero_le _), tot_steps, tot_steps] at ha
  have hlen : (trip 0 0 (stepsL o) (stepsL p)).length = (sumPoly o p).length := by
    have := congrArg List.length hz
    rw [List.length_map, ← sumPoly_len] at this
    exact this
  have e : lsum ((trip 0 0 (stepsL o) (stepsL p)).map fun q => cr (add (At o q.1) (At p q.2.1)) q.2.2) = areaK (sumPoly o p) (sumPoly o p).length := by
    rw [areaK_sum, ← hlen, ← List.length_map (as := trip 0 0 (stepsL o) (stepsL p)) (fun q => cr (add (At o q.1) (At p q.2.1)) q.2.2)]
    refine lsum_sumN _ _ fun k hk => ?_
    rw [List.length_map] at hk
    obtain ⟨q, hq⟩ : ∃ q, (trip 0 0 (stepsL o) (stepsL p))[k]? = some q := ⟨_, List.getElem?_eq_getElem hk⟩
    have e1 : X (sumPoly o p) k = add (At o q.1) (At p q.2.1) := by
      unfold X sumPoly
      rw [hw, List.getElem?_map, hq]; rfl
    have e2 : edge (At (sumPoly o p)) k = q.2.2 := by
      rw [sp_edge ho hp (by omega), ← hz]
      unfold X
      rw [List.getElem?_map, hq]; rfl
    rw [List.getElem?_map, hq, Option.map_some, ← e1, ← e2, ← At_lt _ (show k < (sumPoly o p).length by omega)]
    congr 1
    unfold edge cr sub; grind
  rw [e] at ha
  have z1 : areaK o 0 = 0 := rfl
  have z2 : areaK p 0 = 0 := rfl
  have z3 : ∀ a : XY, cr a (0, 0) = 0 := fun a => by unfold cr; simp
  rw [z1, z2, z3, z3] at ha
  omega
end Go.Proofs.Ytflkhjicgojcbaa.Geo
